"""Whether two rows have one whole, and where their wholes are unlike.

A look modulo a prime shows most unlike wholes at once. What it shows to be unlike is so; what it shows to be alike is
looked at again, number by number.
"""

from math import gcd

from stepswithin.doing import product_of_degrees
from stepswithin.modulo import led_along, rests_of_row, whole_modulo
from stepswithin.polynomials import multiplied, opened, whole_of

# any start will do; one that is no root of a usual step tells most
LOOKED_AT = 10 ** 17 + 3


def surely_unlike(one, other):
    """Return True only if two rows lead some number apart: it is not told in all cases."""
    left, right = rests_of_row(one), rests_of_row(other)
    if left is None or right is None:
        return False
    return led_along(left, LOOKED_AT) != led_along(right, LOOKED_AT)


def are_like(one, other):
    """Return whether two rows whose wholes have one degree have one whole."""
    return not surely_unlike(one, other) and whole_of(one) == whole_of(other)


def lowered(tops, bottom):
    """Return integers over an integer above 0 without a divisor that all of them share."""
    shared = bottom
    for top in tops:
        shared = gcd(shared, top)
        if shared == 1:
            return tops, bottom
    return [top // shared for top in tops], bottom // shared


def top_put_in(tops, bottom, degree, step, most):
    """Return the highest numbers, at most so many, of a step into which those of an inner one are put."""
    outer, below = opened(step)
    found = [outer[-1]]
    scale = 1
    reach = 0
    for top in reversed(outer[:-1]):
        scale *= bottom
        reach += degree
        found = multiplied(tops, found)[:most]
        if reach < most:
            found[reach] += top * scale
    return lowered(found, below * scale)


def top_of_whole(row, most):
    """Return the pair (tops, bottom) of the highest numbers of the whole of a row, at most so many, the head first."""
    tops, bottom = opened(row[0])
    tops = tops[::-1][:most]
    degree = len(row[0]) - 1
    for step in row[1:]:
        tops, bottom = top_put_in(tops, bottom, degree, step, most)
        degree *= len(step) - 1
    return tops, bottom


def first_unlike(one, other):
    """Return the first place at which two lists of one length are unlike, or None."""
    for place, part in enumerate(one):
        if part != other[place]:
            return place
    return None


def unlike_place(one, other, most):
    """Return the place of the first unlike numbers, from the head down, of two wholes, or None if so many are alike."""
    left, bottom = top_of_whole(one, most)
    right, below = top_of_whole(other, most)
    return first_unlike([top * below for top in left], [top * bottom for top in right])


def unlike_place_modulo(one, other):
    """Return a place, from the head down, of surely unlike numbers of two wholes, or None where none is shown."""
    left, right = rests_of_row(one), rests_of_row(other)
    if left is None or right is None:
        return None
    return first_unlike(whole_modulo(left)[::-1], whole_modulo(right)[::-1])


def greatest_unlike(one, other, known):
    """Return the greatest power of X at which the wholes of two rows of one degree are unlike, or None.

    So many of their highest numbers, from the head on, are known to be alike.
    """
    degree = product_of_degrees(one)
    shown = unlike_place_modulo(one, other)
    if shown == known:
        return degree - shown
    place = unlike_place(one, other, degree + 1 if shown is None else shown)
    if place is None:
        place = shown
    return None if place is None else degree - place
