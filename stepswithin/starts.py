"""Starts that come round when a step is done again and again: all of them, told by the bounds of the step."""

from stepswithin.bounds import MOST_LOOKED_AT, bound_of, integer_at
from stepswithin.errors import NoRow, TooGreat
from stepswithin.kinds import need_crooked
from stepswithin.polynomials import fraction, opened, value_of
from stepswithin.ringways import all_rings, coming_places
from stepswithin.steps import need_number


def below_of(step):
    """Return the size of the head of a step that is told by integers over one integer."""
    return abs(opened(step)[0][-1])


def walk_of(step, start, most):
    """Return (PATH, BACK): the unlike numbers from a start on, as long as they are within the bounds of a step.

    BACK is the place in PATH of the number that comes again, or None if one behind them is not within the bounds.
    """
    bound, below = bound_of(step), below_of(step)
    places = {}
    number = start
    while abs(number[0]) <= bound * number[1] and below % number[1] == 0:
        if number in places:
            return list(places), places[number]
        if len(places) == most:
            raise TooGreat(most)
        places[number] = len(places)
        number = value_of(step, number)
    return list(places), None


def refuse_wide(step):
    """Refuse a step with too many numbers within its bounds."""
    if 2 * bound_of(step) * below_of(step) + 1 > MOST_LOOKED_AT:
        raise TooGreat(MOST_LOOKED_AT)


def nexts_of(step, most):
    """Return the list of what each number within the bounds of a step is led to, None for what is beyond them.

    The numbers are told by integers over D, those from -most to most; as places they are told by the integer and most.
    """
    tops, bottom = opened(step)
    below = abs(tops[-1])
    scale = 1
    scaled = []
    for top in reversed(tops):
        scaled.append(top * scale)
        scale *= below
    base = bottom * (scale // (below * below))
    found = []
    for number in range(-most, most + 1):
        value, rest = divmod(integer_at(scaled[::-1], number), base)
        found.append(value + most if rest == 0 and abs(value) <= most else None)
    return found


def starts_of(step):
    """Return the ascending list of all numbers that come round for a step."""
    below = below_of(step)
    most = bound_of(step) * below
    return [fraction(place - most, below) for place in coming_places(nexts_of(step, most))]


def rings_of(step):
    """Return the list of all rings of a step, each begun with its least number, ascending by it."""
    below = below_of(step)
    most = bound_of(step) * below
    return [tuple([fraction(place - most, below) for place in ring]) for ring in all_rings(nexts_of(step, most))]


def bounds_of(step):
    """Return (R, D): numbers greater than R in size, or over what does not divide D, never come round."""
    need_crooked(step)
    return bound_of(step), below_of(step)


def comes_round(step, start):
    """Return (TAIL, RING) of a start that comes round, None for one that never does."""
    need_crooked(step)
    need_number(start)
    path, back = walk_of(step, start, MOST_LOOKED_AT)
    return None if back is None else (tuple(path[:back]), tuple(path[back:]))


def leaves(step, start):
    """Return the least number of times after which the number is not within the bounds."""
    need_crooked(step)
    need_number(start)
    path, back = walk_of(step, start, MOST_LOOKED_AT)
    if back is not None:
        raise NoRow()
    return len(path)


def starts(step):
    """Return the ascending tuple of all numbers that come round."""
    need_crooked(step)
    refuse_wide(step)
    return tuple(starts_of(step))


def rings(step):
    """Return the tuple of all rings, each begun with its least number, ascending by it."""
    need_crooked(step)
    refuse_wide(step)
    return tuple(rings_of(step))


def ring_lengths(step):
    """Return the ascending tuple of the numbers of numbers in rings, as often as there are rings."""
    need_crooked(step)
    refuse_wide(step)
    return tuple(sorted([len(ring) for ring in rings_of(step)]))


def common_starts(one, other):
    """Return the ascending tuple of the numbers that come round for both steps."""
    need_crooked(one)
    need_crooked(other)
    refuse_wide(one)
    refuse_wide(other)
    found = {number: True for number in starts_of(other)}
    return tuple([number for number in starts_of(one) if number in found])
