"""Kinds of steps: Dickson's steps, powers, and the kinds of exchanges."""

from math import comb

from stepswithin.errors import BadParameter, BadRow, NoRow
from stepswithin.fullrows import need_full_row, plain_row_of, swapped
from stepswithin.polynomials import difference_of, fraction, opposite, product_of, put_in, quotient_of
from stepswithin.steps import MOST_DEGREE, is_integer, need_number, need_step


def dickson_of(degree, number):
    """Return Dickson's step of a degree from 1 on."""
    numbers = [(0, 1)] * (degree + 1)
    power = (1, 1)
    for place in range(degree // 2 + 1):
        many = degree * comb(degree - place, place) // (degree - place)
        numbers[degree - 2 * place] = fraction(many * power[0], power[1])
        power = product_of(power, opposite(number))
    return tuple(numbers)


def centre_of(step):
    """Return the middle of a step."""
    degree = len(step) - 1
    return quotient_of(step[-2], product_of(step[-1], (degree, 1)))


def centred(step):
    """Return a step told by Y, the letter and its middle added."""
    return put_in((opposite(centre_of(step)), (1, 1)), step)


def form_of(step):
    """Return the Dickson's form (LAST, A, C) of a step of a degree from 2 on, or None."""
    degree = len(step) - 1
    told = centred(step)
    head = step[-1]
    number = (0, 1)
    if degree > 2:
        number = quotient_of(opposite(told[-3]), product_of(head, (degree, 1)))
    numbers = [product_of(head, part) for part in dickson_of(degree, number)]
    if tuple(numbers[1:]) != told[1:]:
        return None
    return (difference_of(told[0], numbers[0]), head), number, centre_of(step)


def is_told_by_power(step):
    """Return whether a step of a degree from 2 on is a power but for a straight step behind it."""
    return not any([number != (0, 1) for number in centred(step)[1:-1]])


def need_crooked(step):
    """Refuse what is no step, then a straight one."""
    need_step(step)
    if len(step) == 2:
        raise BadParameter(step)


def dickson(degree, number):
    """Return Dickson's step D_n(X, A) of a degree n and a number A."""
    if not is_integer(degree) or degree < 1 or degree > MOST_DEGREE:
        raise BadParameter(degree)
    need_number(number)
    return dickson_of(degree, number)


def middle_of(step):
    """Return the middle C of a step: written in powers of X + C it has none of the exponent N - 1."""
    need_crooked(step)
    return centre_of(step)


def dickson_form(step):
    """Return (LAST, A, C) such that the whole of (X + C, D_N(X, A), LAST) is the step."""
    need_crooked(step)
    found = form_of(step)
    if found is None:
        raise NoRow()
    return found


def is_power(step):
    """Return whether a step is (X + C) ** N but for a straight step behind it."""
    need_crooked(step)
    return is_told_by_power(step)


def need_exchange(row):
    """Return the plain row of a full row of two steps and the exchanged one, refuse anything else."""
    if not isinstance(row, tuple) or len(row) != 2:
        raise BadRow(())
    need_full_row(row)
    plain = plain_row_of(row)
    other = swapped(plain[0], plain[1])
    if other is None:
        raise NoRow()
    return plain, other


def exchange_kind(row):
    """Return "power" if one of two steps that can be exchanged is a power, else "dickson"."""
    need_exchange(row)
    if is_told_by_power(row[0]) or is_told_by_power(row[1]):
        return "power"
    return "dickson"


def power_exchange(row):
    """Return (N, C, S, P, LAST): with Y = X + C the whole of the row is LAST of (Y ** S P(Y ** N)) ** N.

    The power Y ** N stands first in one of the two rows; in the other one it stands last, told by a letter that
    differs by the middle of that last step from what is ahead of it.
    """
    plain, other = need_exchange(row)
    if is_told_by_power(plain[0]):
        power, (ahead, last) = plain[0], other
    elif is_told_by_power(plain[1]):
        power, (ahead, last) = other[0], plain
    else:
        raise NoRow()
    degree = len(power) - 1
    middle = centre_of(power)
    rooted = put_in((opposite(middle), (1, 1)), (centre_of(last), *ahead[1:]))
    rest = (len(ahead) - 1) % degree
    return degree, middle, rest, rooted[rest::degree], (centred(last)[0], last[-1])
