"""Steps that are chosen one at each moment: what can be reached, in how many ways, and what can stay for ever."""

from stepswithin.bounds import bound_of, integer_at, integers_of, is_whole, need_integer_number, refuse_many
from stepswithin.errors import BadParameter, BadRow, NoRow
from stepswithin.steps import is_integer, is_number, need_row

MOST_LENGTH = 60
MOST_INDEXES = 4000


def is_let(step):
    """Return whether a step is whole, and of a degree from 2 on or with a head of 2 and more in size."""
    return is_whole(step) and (len(step) > 2 or abs(step[-1][0]) >= 2)


def need_choices(steps):
    """Refuse what is no row, then its first step that is not let."""
    need_row(steps)
    for place, step in enumerate(steps):
        if not is_let(step):
            raise BadRow((place,))


def bound_of_all(steps):
    """Return the greatest one of the bounds of some steps."""
    return max([bound_of(step) for step in steps])


def need_goal(steps, start, goal):
    """Refuse what are no choices, no start, no goal."""
    need_choices(steps)
    need_integer_number(start)
    need_integer_number(goal)


def most_to(steps, goal):
    """Return the size beyond which no number leads to a goal, refuse too great a one."""
    most = max(bound_of_all(steps), abs(goal[0]))
    refuse_many(most)
    return most


def followers_of(rows, number, most):
    """Return the list of what each of some steps leads a number to, None where this is beyond a size."""
    found = [integer_at(tops, number) for tops in rows]
    return [follower if abs(follower) <= most else None for follower in found]


def explored(steps, start, most):
    """Return a dict of the followers of each number to which some word leads a start without leaving a size.

    The numbers come in the order of the least ones of the shortest words that lead to them.
    """
    if abs(start) > most:
        return {}
    rows = [integers_of(step) for step in steps]
    graph = {}
    order = [start]
    met = {start: True}
    at = 0
    while at < len(order):
        number = order[at]
        followers = followers_of(rows, number, most)
        graph[number] = followers
        for follower in followers:
            if follower is not None and follower not in met:
                met[follower] = True
                order.append(follower)
        at += 1
    return graph


def word_in(graph, start, goal):
    """Return the least of the shortest words that lead a start to a goal, both in a graph of followers.

    From each number on the way back stands the first one in the graph that leads to it, by the least index.
    """
    links = {start: None}
    for number, followers in graph.items():
        for index, follower in enumerate(followers):
            if follower is not None and follower not in links:
                links[follower] = (number, index)
    word = []
    at = goal
    while at != start:
        at, index = links[at]
        word.append(index)
    return tuple(word[::-1])


def counted(graph, start, length):
    """Return a dict of how many words of a length lead a start to each number of a graph of followers."""
    counts = {start: 1} if start in graph else {}
    for _ in range(length):
        longer = {}
        for number, many in counts.items():
            for follower in graph[number]:
                if follower is not None:
                    longer[follower] = longer.get(follower, 0) + many
        counts = longer
    return counts


def lasting(graph):
    """Return a dict that tells for each number of a graph of followers how many of these can stay in it for ever.

    Numbers without such a follower are struck out one after the other.
    """
    left = {number: 0 for number in graph}
    sources = {number: [] for number in graph}
    for number, followers in graph.items():
        for follower in followers:
            if follower is not None:
                left[number] += 1
                sources[follower].append(number)
    gone = [number for number, many in left.items() if many == 0]
    at = 0
    while at < len(gone):
        number = gone[at]
        for source in sources[number]:
            left[source] -= 1
            if left[source] == 0:
                gone.append(source)
        at += 1
    return left


def staying_words(graph, start):
    """Return (WAY, ROUND): words that lead a start of a graph to a number, and this to itself; None without them."""
    left = lasting(graph)
    if left.get(start, 0) == 0:
        return None
    places = {}
    word = []
    number = start
    while number not in places:
        places[number] = len(word)
        index = 0
        while left.get(graph[number][index], 0) == 0:
            index += 1
        word.append(index)
        number = graph[number][index]
    return tuple(word[:places[number]]), tuple(word[places[number]:])


def led_within(rows, number, word, most):
    """Return what a word leads an integer to, or None if it is led beyond a size on the way."""
    for index in word:
        if abs(number) > most:
            return None
        number = integer_at(rows[index], number)
    return number


def is_pair_of_words(value, size):
    """Return whether a value is a pair of tuples of indexes below a size, the second one not empty, not too long."""
    if not isinstance(value, tuple) or len(value) != 2:
        return False
    way, back = value
    if not isinstance(way, tuple) or not isinstance(back, tuple) or back == () or len(way) + len(back) > MOST_INDEXES:
        return False
    return all([is_integer(index) and 0 <= index < size for index in [*way, *back]])


def ascending_integers(value, most):
    """Return a tuple of ascending unlike integer numbers of at most a size as a list of integers, else None."""
    if not isinstance(value, tuple):
        return None
    found = []
    for number in value:
        if not is_number(number) or number[1] != 1 or abs(number[0]) > most:
            return None
        if found != [] and number[0] <= found[-1]:
            return None
        found.append(number[0])
    return found


def choice_bound(steps):
    """Return B: from a number greater in size every choice leads to one that is greater still."""
    need_choices(steps)
    return bound_of_all(steps)


def reach(steps, start, goal):
    """Return the least of the shortest words that lead a start to a goal, None if no word does."""
    need_goal(steps, start, goal)
    graph = explored(steps, start[0], most_to(steps, goal))
    return word_in(graph, start[0], goal[0]) if goal[0] in graph else None


def closed_list(steps, start, goal):
    """Return the ascending tuple of all numbers, not beyond M, to which words lead a start that misses a goal."""
    need_goal(steps, start, goal)
    graph = explored(steps, start[0], most_to(steps, goal))
    if goal[0] in graph:
        raise NoRow()
    return tuple([(number, 1) for number in sorted(graph)])


def is_closed(steps, start, goal, value):
    """Return whether a value of any kind is a list that is closed, with the start and without the goal."""
    need_goal(steps, start, goal)
    most = most_to(steps, goal)
    numbers = ascending_integers(value, most)
    if numbers is None or goal[0] in numbers or (abs(start[0]) <= most and start[0] not in numbers):
        return False
    rows = [integers_of(step) for step in steps]
    listed = {number: True for number in numbers}
    for number in numbers:
        if any([follower is not None and follower not in listed for follower in followers_of(rows, number, most)]):
            return False
    return True


def count_words(steps, start, goal, length):
    """Return how many words of a length lead a start to a goal."""
    need_goal(steps, start, goal)
    if not is_integer(length) or length < 0 or length > MOST_LENGTH:
        raise BadParameter(length)
    graph = explored(steps, start[0], most_to(steps, goal))
    return counted(graph, start[0], length).get(goal[0], 0)


def stays(steps, start):
    """Return (WAY, ROUND), words that keep a start within bounds for ever, None if no row of choices does."""
    need_choices(steps)
    need_integer_number(start)
    most = bound_of_all(steps)
    refuse_many(most)
    return staying_words(explored(steps, start[0], most), start[0])


def is_staying(steps, start, value):
    """Return whether a value of any kind is a pair of words that keep a start within bounds for ever."""
    need_choices(steps)
    need_integer_number(start)
    most = bound_of_all(steps)
    refuse_many(most)
    if not is_pair_of_words(value, len(steps)):
        return False
    rows = [integers_of(step) for step in steps]
    number = led_within(rows, start[0], value[0], most)
    return number is not None and abs(number) <= most and led_within(rows, number, value[1], most) == number
