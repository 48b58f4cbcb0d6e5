"""Full rows: a step told by steps that have no parts, and how such rows are led to one another."""

from math import gcd

from stepswithin.doing import refuse_great
from stepswithin.errors import BadIndex, BadRow, NoRow, Unlike
from stepswithin.parting import behind_or_break, candidate_of, has_part
from stepswithin.parts import cover_places, divisors, part_degrees
from stepswithin.polynomials import LETTER, plain_form, put_in
from stepswithin.steps import is_integer, need_row, need_step


def has_no_parts(step):
    """Return whether a step is unparted."""
    degrees = divisors(len(step) - 1)
    return len(degrees) > 1 and not any([has_part(step, degree) for degree in degrees[1:-1]])


def part_ways(degrees):
    """Return the ascending list of the ways from the first to the last of the degrees, from each to one that covers it.

    All ways are equally long, so they come to the end together.
    """
    pairs = cover_places(degrees)
    ways = [(0,)]
    while ways[0][-1] != len(degrees) - 1:
        ways = [(*way, high) for way in ways for low, high in pairs if low == way[-1]]
    return ways


def need_some_row(step):
    """Refuse what is no step, then a straight one, which has no full rows."""
    need_step(step)
    if len(step) == 2:
        raise NoRow()


def plain_row_of(row):
    """Return the plain row with the whole and the degrees of a row."""
    found = []
    turn = LETTER
    for step in row[:-1]:
        plain, turn = plain_form(put_in(turn, step))
        found.append(plain)
    return (*found, put_in(turn, row[-1]))


def swapped(first, last):
    """Return the row of two unparted steps, exchanged, or None; the first step of it is plain.

    The other row is told by its degrees. Were they not coprime, a first part of their common degree would part a step.
    """
    degree = len(last) - 1
    if gcd(len(first) - 1, degree) != 1:
        return None
    both = put_in(first, last)
    if not has_part(both, degree):
        return None
    part = candidate_of(both, degree)
    return part, behind_or_break(both, part)[0]


def need_full_row(row):
    """Refuse what is no row, then its first step that is not unparted, then too great a degree of its whole."""
    need_row(row)
    for place, step in enumerate(row):
        if not has_no_parts(step):
            raise BadRow((place,))
    refuse_great(row)


def places_in(one, other):
    """Return the list of the places that the steps of one full row have in another one of the same degrees.

    Steps of one degree are never exchanged, so the k-th one stays the k-th one.
    """
    sizes = [len(step) for step in other]
    found = []
    for step in one:
        place = sizes.index(len(step))
        sizes[place] = 0
        found.append(place)
    return found


def way_between(one, other):
    """Return the tuple of places whose exchanges lead one checked full row to another one, the least place each time.

    No whole is worked out, it may be great. If the wholes are alike, neighbours that stand the other way round in the
    other row can be exchanged, and in the end both plain rows are one; if they are not, one of these does not hold.
    """
    if sorted([len(step) for step in one]) != sorted([len(step) for step in other]):
        raise Unlike(())
    row = list(plain_row_of(one))
    places = places_in(one, other)
    way = []
    at = 0
    while at < len(places) - 1:
        if places[at] < places[at + 1]:
            at += 1
        else:
            pair = swapped(row[at], row[at + 1])
            if pair is None:
                raise Unlike(())
            row[at], row[at + 1] = pair
            places[at], places[at + 1] = places[at + 1], places[at]
            way.append(at)
            at = max(0, at - 1)
    if tuple(row) != plain_row_of(other):
        raise Unlike(())
    return tuple(way)


def is_unparted(step):
    """Return whether the degree of a step is from 2 on and it has first parts of no degree but 1 and its own."""
    return has_no_parts(need_step(step))


def full_rows(step):
    """Return the ascending tuple of the plain full rows of a step."""
    need_some_row(step)
    degrees = part_degrees(step)
    parts = [*[candidate_of(step, degree) for degree in degrees[:-1]], step]
    pairs = cover_places(degrees)
    between = {(low, high): behind_or_break(parts[high], parts[low])[0] for low, high in pairs}
    return tuple([tuple([between[pair] for pair in zip(way, way[1:])]) for way in part_ways(degrees)])


def how_many_rows(step):
    """Return the number of the plain full rows of a step."""
    need_some_row(step)
    return len(part_ways(part_degrees(step)))


def plain_row(row):
    """Return the plain row with the whole and the degrees of a row."""
    refuse_great(need_row(row))
    return plain_row_of(row)


def exchanges(row):
    """Return the ascending tuple of the places at which neighbours of a full row can be exchanged."""
    need_full_row(row)
    return tuple([place for place in range(len(row) - 1) if swapped(row[place], row[place + 1]) is not None])


def exchanged(row, index):
    """Return the plain row behind the exchange of two neighbours of a full row."""
    need_full_row(row)
    if not is_integer(index) or index < 0 or index > len(row) - 2:
        raise BadIndex(index)
    plain = plain_row_of(row)
    pair = swapped(plain[index], plain[index + 1])
    if pair is None:
        raise BadIndex(index)
    return (*plain[:index], *pair, *plain[index + 2:])


def exchange_way(one, other):
    """Return the least of the shortest tuples of places whose exchanges lead one full row to the other one."""
    need_full_row(one)
    need_full_row(other)
    return way_between(one, other)


def turned_pairs(one, other):
    """Return how many pairs of steps of one full row stand the other way round in the other one.

    Each exchange on the shortest way turns back one of them.
    """
    return len(exchange_way(one, other))
