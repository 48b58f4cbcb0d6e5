"""Common wholes: steps behind two steps, and what shows that there are none.

Both steps are made plain. Of the powers of the one, and those of the other one below the common degree, no two have one
degree: they are the leads. What the two highest powers differ by is cleared by the leads from the top down. If nothing
is left, the common whole is found; a number left at a power where no lead begins shows that there is none.

All is told by integers, each power over its own last one. So it can be looked at modulo a prime, too: what is left
there is left in truth, if the prime divides no last one. `modulo` is PRIME then, and 0 to work in full.
"""

from math import gcd, lcm

from stepswithin.doing import MOST_WHOLE
from stepswithin.errors import NoRow, TooGreat
from stepswithin.modulo import PRIME
from stepswithin.polynomials import fraction, multiplied, opened, opposite, plain_form, put_in
from stepswithin.steps import is_integer, need_step, straight_back


def powers_of(step, most, modulo):
    """Return the list of the powers, up to a degree, of a step made plain, each told by integers."""
    base = opened(plain_form(step)[0])[0]
    found = []
    power = [1]
    for _ in range(most // (len(step) - 1)):
        power = multiplied(base, power)
        if modulo:
            power = [number % modulo for number in power]
        found.append(power)
    return found


def cleared(numbers, lead, place, modulo):
    """Return (NUMBERS, FACTOR): so many times the numbers, less so many times a lead that 0 stands at a place."""
    shared = 1 if modulo else gcd(numbers[place], lead[place])
    factor, part = lead[place] // shared, numbers[place] // shared
    found = [number * factor for number in numbers]
    for k, number in enumerate(lead):
        found[k] -= part * number
    return ([number % modulo for number in found] if modulo else found), factor


def left_and_taken(one, other, modulo):
    """Return (PLACE, TAKEN): the highest power at which a number is left, or None, and how often a lead was taken.

    TAKEN tells it by the degrees of the leads.
    """
    most = lcm(len(one) - 1, len(other) - 1)
    left, right = powers_of(one, most, modulo), powers_of(other, most, modulo)
    leads = {len(lead) - 1: lead for lead in [*left, *right[:-1]]}
    rest, factor = cleared(right[-1], left[-1], most, modulo)
    bottom = factor * right[-1][-1]
    taken = {}
    for place in reversed(range(1, most)):
        if rest[place] != 0:
            if place not in leads:
                return place, taken
            taken[place] = fraction(rest[place], bottom)
            rest, factor = cleared(rest, leads[place], place, modulo)
            bottom *= factor
    return None, taken


def what_is_left(one, other):
    """Return (PLACE, TAKEN): PLACE alone tells it all if it is not None; else TAKEN is worked out in full."""
    if all([opened(plain_form(step)[0])[1] % PRIME != 0 for step in (one, other)]):
        place, taken = left_and_taken(one, other, PRIME)
        if place is not None:
            return place, taken
    return left_and_taken(one, other, 0)


def whole_behind(one, other):
    """Return (A, B, WHOLE), the plain common whole of the least degree and the last parts behind two steps, or None.

    The difference of both highest powers is what was taken of the leads; each lead on its own side, both sides are
    the whole.
    """
    place, taken = what_is_left(one, other)
    if place is not None:
        return None
    most = lcm(len(one) - 1, len(other) - 1)
    near, far = len(one) - 1, len(other) - 1
    left = ((0, 1), *[taken.get(power, (0, 1)) for power in range(near, most, near)], (1, 1))
    right = ((0, 1), *[opposite(taken.get(power, (0, 1))) for power in range(far, most, far)], (1, 1))
    plain, behind = plain_form(one)
    back = straight_back(plain_form(other)[1])
    return put_in(straight_back(behind), left), put_in(back, right), put_in(plain, left)


def is_regular(rows, modulo):
    """Return whether the determinant of a square, told by its rows of integers, is not 0.

    Of the rows that do not begin with 0 the last one clears the others: told from the highest power down, the rows of
    the lowest powers are cleared already.
    """
    left = list(rows)
    for column in range(len(rows)):
        begun = [at for at, row in enumerate(left) if row[column] != 0]
        if begun == []:
            return False
        lead = left[begun[-1]]
        for at in begun[:-1]:
            left[at] = without_shared(cleared(left[at], lead, column, modulo)[0], modulo)
        left = [row for at, row in enumerate(left) if at != begun[-1]]
    return True


def without_shared(numbers, modulo):
    """Return integers without a divisor that all of them share."""
    shared = 0 if not modulo else 1
    for number in numbers:
        shared = gcd(shared, number)
    return numbers if shared < 2 else [number // shared for number in numbers]


def rows_at(one, other, places, modulo):
    """Return the numbers at some powers of X, from the highest down, of the powers of two steps made plain and of 1."""
    most = lcm(len(one) - 1, len(other) - 1)
    powers = [*powers_of(one, most, modulo), *powers_of(other, most, modulo), [1]]
    ordered = sorted(powers, key=lambda row: -len(row))
    return [[power[place] if place < len(power) else 0 for place in reversed(places)] for power in ordered]


def common_degree(one, other):
    """Return the least common multiple of the degrees of two steps, refuse what are none and too great a one."""
    need_step(one)
    need_step(other)
    degree = lcm(len(one) - 1, len(other) - 1)
    if degree > MOST_WHOLE:
        raise TooGreat(MOST_WHOLE)
    return degree


def common_whole(one, other):
    """Return (A, B, WHOLE): the plain common whole of the least degree, the last parts behind both steps; or None."""
    common_degree(one, other)
    return whole_behind(one, other)


def are_joined(one, other):
    """Return whether two steps have a common whole."""
    common_degree(one, other)
    return what_is_left(one, other)[0] is None


def bar_places(one, other):
    """Return powers of X at which the numbers of the powers of two steps show that they have no common whole.

    They are those at which the leads begin, and one at which a number is left.
    """
    most = common_degree(one, other)
    place = what_is_left(one, other)[0]
    if place is None:
        raise NoRow()
    near, far = list(range(0, most + 1, len(one) - 1)), list(range(len(other) - 1, most, len(other) - 1))
    return tuple(sorted([*near, *far, place]))


def is_bar(one, other, value):
    """Return whether a value of any kind is a tuple of powers of X that shows that there is no common whole."""
    most = common_degree(one, other)
    if not isinstance(value, tuple) or len(value) != most // (len(one) - 1) + most // (len(other) - 1) + 1:
        return False
    if not all([is_integer(place) and 0 <= place <= most for place in value]):
        return False
    if any([low >= high for low, high in zip(value, value[1:])]):
        return False
    if is_regular(rows_at(one, other, value, PRIME), PRIME):
        return True
    return not are_joined(one, other) and is_regular(rows_at(one, other, value, 0), 0)
