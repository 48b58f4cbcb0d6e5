"""The far letter of a step, in which all that commutes with it is told at once.

A step of the degree N from 2 on with the head A has just one series Z = X + B1 + B2 / X + .. that becomes A Z ** N
where the step is put in for X. What commutes with the step and has the degree M is C Z ** M, told in that letter: its
numbers are those of C Z ** M, B1 taken from the one at the power 0.

Series are told over one integer E, the scale: (1, S1, S2, ..) is 1 + S1 / (E X) + S2 / (E X) ** 2 + .. Where E is a
multiple of N ** 2 and of all that is below, all numbers here are integers, and each division has no rest. So they may
be worked out modulo the prime, too: `modulo` is PRIME then, and 0 to work them out in full.
"""

from math import lcm

from stepswithin.modulo import PRIME, inverse
from stepswithin.polynomials import difference_of, fraction, opened, quotient_of
from stepswithin.roots import integer_power


def over(value, part, modulo):
    """Return an integer over one that divides it."""
    return value * inverse(part) % modulo if modulo else value // part


def next_number(series, found, top, bottom, modulo):
    """Return the number behind those found of the series whose exponent over another one is top / bottom.

    The derivatives of both tell each number by those ahead of it.
    """
    place = len(found)
    parts = [(k * top - (place - k) * bottom) * series[k] * found[place - k]
             for k in range(1, min(place + 1, len(series))) if series[k] != 0]
    return over(sum(parts), place * bottom, modulo)


def powered(series, exponent, size, modulo):
    """Return `size` numbers of the power of a series, the exponent being any integer."""
    found = [1]
    while len(found) < size:
        found.append(next_number(series, found, exponent, 1, modulo))
    return found


def scaled_step(step, size):
    """Return (SERIES, E, TURN) of a step over its head and its highest power: at least `size` numbers.

    TURN is 1 / A, A the head, as it stands at the power N over E, where B1 is put in.
    """
    degree = len(step) - 1
    top, bottom = step[-1]
    tops, below = opened([quotient_of(number, step[-1]) for number in reversed(step)])
    scale = degree * degree * lcm(below, top)
    series = [1]
    factor = scale // below
    for number in tops[1:]:
        series.append(number * factor)
        factor *= scale
    turn = bottom * (scale // top) * integer_power(scale, degree - 2)
    return series + [0] * (size - len(series)), scale, turn


def far_letter(step, size, modulo):
    """Return (SERIES, E), `size` numbers of the far letter of a step over X.

    Where the step is put in for X, B1 stands first at the N-th place, B2 at the 2 N-th one, and so on: each is known
    as its place is come to.
    """
    degree = len(step) - 1
    base, scale, turn = scaled_step(step, size)
    if modulo:
        base, turn = [number % modulo for number in base], turn % modulo
    series = list(base)
    found = [1]
    factor = 1
    for place in range(1, size):
        if place % degree == 0:
            factor = factor * turn % modulo if modulo else factor * turn
            part = found[place // degree] * factor
            for k, number in enumerate(powered(base, 1 - place // degree, size - place, modulo)):
                series[place + k] += part * number
        found.append(next_number(series, found, 1, degree, modulo))
    return found, scale


def told_far(letter, degree, head):
    """Return the step of a degree with a head that is told by a far letter of more numbers than the degree."""
    series, scale = letter
    numbers = []
    bottom = head[1]
    for top in powered(series, degree, degree + 1, 0):
        numbers.append(fraction(head[0] * top, bottom))
        bottom *= scale
    numbers[-1] = difference_of(numbers[-1], fraction(series[1], scale))
    return tuple(reversed(numbers))


def rests_told_far(letter, degree, head):
    """Return the numbers modulo the prime of that step, where the prime does not divide what is below."""
    series, scale = letter
    shrink = inverse(scale)
    factor = head[0] * inverse(head[1]) % PRIME
    found = []
    for top in powered(series, degree, degree + 1, PRIME):
        found.append(top * factor % PRIME)
        factor = factor * shrink % PRIME
    found[-1] -= series[1] * shrink
    return found[::-1]
