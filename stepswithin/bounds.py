"""Bounds beyond which a step leads every number to one of a greater size, and steps and starts with whole numbers."""

from stepswithin.errors import BadParameter, TooGreat
from stepswithin.polynomials import opened
from stepswithin.steps import need_number

MOST_LOOKED_AT = 2000


def reaches(sizes, bottom, bound):
    """Return whether the size of the head, times the power of a bound, is at least what all else comes to there.

    The integers `sizes`, over the integer `bottom`, are the sizes of the numbers of a step.
    """
    found = sizes[-1]
    for size in reversed(sizes[:-1]):
        found = found * bound - size
    return found >= bottom * bound


def bound_of(step):
    """Return the least integer R from 1 on such that the head outweighs all other numbers of a step at R, and R.

    Of what reaches only one sign differs from those ahead of it, so from the least such number on all are such.
    """
    tops, bottom = opened(step)
    sizes = [abs(top) for top in tops]
    high = 1
    while not reaches(sizes, bottom, high):
        high *= 2
    low = high // 2
    while high - low > 1:
        half = (low + high) // 2
        if reaches(sizes, bottom, half):
            high = half
        else:
            low = half
    return high


def refuse_many(bound):
    """Refuse a bound if there are too many integers of at most this size."""
    if 2 * bound + 1 > MOST_LOOKED_AT:
        raise TooGreat(MOST_LOOKED_AT)


def is_whole(step):
    """Return whether all numbers of a step are integers."""
    return all([bottom == 1 for _, bottom in step])


def need_integer_number(value):
    """Refuse what is no number, then a number that is no integer."""
    need_number(value)
    if value[1] != 1:
        raise BadParameter(value)


def integers_of(step):
    """Return the list of the numbers of a whole step as integers."""
    return [top for top, _ in step]


def integer_at(tops, number):
    """Return the integer to which a whole step, told by its integers, leads an integer."""
    found = 0
    for top in reversed(tops):
        found = found * number + top
    return found
