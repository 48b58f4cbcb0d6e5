"""A look at steps modulo a prime: it shows of most of them at once that they have no first part, or unlike wholes.

The numbers of a candidate may have thousands of figures; modulo the prime none has more than nineteen. Where the head
of a step told by integers is no multiple of the prime, the candidate and its remainders modulo the prime are those of
the step modulo the prime: all that is divided by is the head and numbers less than the prime. Likewise the whole of a
row modulo the prime is that of its steps modulo the prime, where no number of them is over a multiple of the prime.
"""

from stepswithin.polynomials import multiplied, opened
from stepswithin.roots import power_modulo

PRIME = 2 ** 61 - 1


def inverse(number):
    """Return the inverse of an integer, no multiple of the prime: its power with the exponent PRIME - 2."""
    return power_modulo(number, PRIME - 2, PRIME)


def root_series(series, exponent, size):
    """Return `size` numbers of the series whose power with the exponent is a series begun with 1."""
    found = [1]
    for place in range(1, size):
        parts = [(k - exponent * (place - k)) * series[k] * found[place - k] for k in range(1, place + 1)]
        found.append(sum(parts) * inverse(place * exponent) % PRIME)
    return found


def first_remainder(series, base):
    """Return the remainder of two polynomials with the head 1, both from the head down, but for its last number."""
    left = list(series)
    size = len(base)
    least = len(left) - size
    for place in range(least):
        part = left[place]
        for k in range(size):
            left[place + k] = (left[place + k] - part * base[k]) % PRIME
    return left[least:-1]


def surely_none(step, degree):
    """Return True only if a step has no first part of a degree, a divisor of its own: it is not told in all cases."""
    tops = opened(step)[0]
    if tops[-1] % PRIME == 0:
        return False
    scale = inverse(tops[-1])
    series = [top * scale % PRIME for top in reversed(tops)]
    base = root_series(series, (len(step) - 1) // degree, degree)
    return any([rest != 0 for rest in first_remainder(series, base)])


def rests_of(step):
    """Return the list of the numbers of a step modulo the prime, or None where the prime divides what is below."""
    tops, bottom = opened(step)
    if bottom % PRIME == 0:
        return None
    scale = inverse(bottom)
    return [top * scale % PRIME for top in tops]


def rests_of_row(row):
    """Return the list of the rests of the steps of a row, or None where one of them has none."""
    found = [rests_of(step) for step in row]
    return None if None in found else found


def led_along(rests, start):
    """Return what a start is led to modulo the prime by the rests of a row of steps."""
    number = start
    for tops in rests:
        found = 0
        for top in reversed(tops):
            found = (found * number + top) % PRIME
        number = found
    return number


def whole_modulo(rests):
    """Return the numbers modulo the prime of the whole of a row that is told by the rests of its steps."""
    found = rests[0]
    for outer in rests[1:]:
        inner = found
        found = [outer[-1]]
        for top in reversed(outer[:-1]):
            found = [number % PRIME for number in multiplied(inner, found)]
            found[0] += top
    return [number % PRIME for number in found]
