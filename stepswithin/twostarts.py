"""Two starts of one whole step: whether they come together, and what shows that they never do."""

from stepswithin.bounds import bound_of, integer_at, integers_of, is_whole, need_integer_number, refuse_many
from stepswithin.errors import BadParameter, NoRow
from stepswithin.steps import is_integer, need_step

LEAST_DEGREE = 2
GREATEST_DEGREE = 12
MOST_MOMENT = 2000
MOST_SIZE = (10 ** 60) ** 5


def need_two_starts(step, one, other):
    """Return the integers of a whole step and its bound, refuse what is no such step, no start, too great a bound."""
    need_step(step)
    if not is_whole(step) or len(step) - 1 < LEAST_DEGREE or len(step) - 1 > GREATEST_DEGREE:
        raise BadParameter(step)
    need_integer_number(one)
    need_integer_number(other)
    bound = bound_of(step)
    refuse_many(bound)
    return integers_of(step), bound


def keeps_sides(tops):
    """Return whether a step leads each side of 0, far out, to itself: its degree is odd, its head above 0."""
    return len(tops) & 1 == 0 and tops[-1] > 0


def times_to_side(tops):
    """Return after how many times, 1 or 2, what is far out is on one side again."""
    return 2 if len(tops) & 1 == 0 and tops[-1] < 0 else 1


def path_of(tops, bound, start):
    """Return (PATH, BACK): the unlike numbers from a start on, up to the first one beyond the bound.

    BACK is the place in PATH of the number that comes again, or None if one beyond the bound is met.
    """
    places = {}
    number = start
    while number not in places:
        places[number] = len(places)
        if abs(number) > bound:
            return list(places), None
        number = integer_at(tops, number)
    return list(places), places[number]


def number_in(tops, path, place):
    """Return the number at a place of a path, which is made as long as it must be."""
    while len(path) <= place:
        path.append(integer_at(tops, path[-1]))
    return path[place]


def grown(tops, path, size):
    """Make a path that leads beyond the bound so long that its last number is at least of a size."""
    while abs(path[-1]) < size:
        path.append(integer_at(tops, path[-1]))


def grown_both(tops, left, right):
    """Make two paths that lead beyond the bound so long that they meet in them if they ever do.

    Where they meet first beyond the bound, either the number is the first or the second one out there of one of them,
    or unlike numbers out there, none of them a first one, have one value: but all these are on one side, or the step
    leads sides to unlike sides, and all along a side no value comes twice.
    """
    size = max(abs(number_in(tops, left, len(left))), abs(number_in(tops, right, len(right))))
    grown(tops, left, size)
    grown(tops, right, size)


def first_meeting(left, right):
    """Return the least pair (I, J) of places of two paths at which they have one number, or None."""
    places = {number: place for place, number in enumerate(right)}
    for place, number in enumerate(left):
        if number in places:
            return place, places[number]
    return None


def first_beyond(path, bound):
    """Return the place of the first number of a path that is greater in size than a bound."""
    place = 0
    while abs(path[place]) <= bound:
        place += 1
    return place


def are_parted(tops, near, later, far):
    """Return whether a number out there is on another side for ever, or truly between one and its later value."""
    if (near > 0) != (far > 0):
        return keeps_sides(tops)
    return (near > 0) == (later > 0) and abs(near) < abs(far) < abs(later)


def least_parted(tops, left, right, bound):
    """Return the least pair (I, J) of moments that are apart of two paths out of the bounds that never meet."""
    times = times_to_side(tops)
    least = first_beyond(right, bound)
    at = first_beyond(left, bound)
    while True:
        near, later = number_in(tops, left, at), number_in(tops, left, at + times)
        place = least
        while not are_parted(tops, near, later, number_in(tops, right, place)) and abs(right[place]) < abs(later):
            place += 1
        if are_parted(tops, near, later, right[place]):
            return at, place
        at += 1


def small_number_at(tops, start, moment):
    """Return the number of a start at a moment, or None if one up to there is too great."""
    number = start
    for _ in range(moment):
        if abs(number) > MOST_SIZE:
            return None
        number = integer_at(tops, number)
    return None if abs(number) > MOST_SIZE else number


def is_moment(value):
    """Return whether a value is an integer from 0 to 2,000."""
    return is_integer(value) and 0 <= value <= MOST_MOMENT


def comes_together(step, one, other):
    """Return the least pair (I, J) such that the I-th number of one start is the J-th of the other one, or None."""
    tops, bound = need_two_starts(step, one, other)
    left, back = path_of(tops, bound, one[0])
    right, there = path_of(tops, bound, other[0])
    if (back is None) != (there is None):
        return None
    if back is None:
        grown_both(tops, left, right)
    return first_meeting(left, right)


def apart_moments(step, one, other):
    """Return the least pair (I, J) of moments that show that two starts never come together."""
    tops, bound = need_two_starts(step, one, other)
    left, back = path_of(tops, bound, one[0])
    right, there = path_of(tops, bound, other[0])
    if back is not None or there is not None:
        raise NoRow()
    grown_both(tops, left, right)
    if first_meeting(left, right) is not None:
        raise NoRow()
    return least_parted(tops, left, right, bound)


def is_apart_at(step, one, other, value):
    """Return whether a value of any kind is a pair of moments that are apart, with numbers that are not too great."""
    tops, bound = need_two_starts(step, one, other)
    if not isinstance(value, tuple) or len(value) != 2 or not is_moment(value[0]) or not is_moment(value[1]):
        return False
    near = small_number_at(tops, one[0], value[0])
    far = small_number_at(tops, other[0], value[1])
    if near is None or far is None or abs(near) <= bound or abs(far) <= bound:
        return False
    later = near
    for _ in range(times_to_side(tops)):
        later = integer_at(tops, later)
    return are_parted(tops, near, later, far)
