"""A look at a step modulo a prime: it shows of most steps at once that they have no first part of a degree.

The numbers of a candidate may have thousands of figures; modulo the prime none has more than nineteen. Where the head
of a step told by integers is no multiple of the prime, the candidate and its remainders modulo the prime are those of
the step modulo the prime: all that is divided by is the head and numbers less than the prime.
"""

from stepswithin.polynomials import opened

PRIME = 2 ** 61 - 1


def inverse(number):
    """Return the inverse of an integer, no multiple of the prime: its power with the exponent PRIME - 2."""
    found = 1
    factor = number % PRIME
    exponent = PRIME - 2
    while exponent > 0:
        if exponent & 1:
            found = found * factor % PRIME
        factor = factor * factor % PRIME
        exponent >>= 1
    return found


def root_series(series, exponent, size):
    """Return `size` numbers of the series whose power with the exponent is a series begun with 1."""
    found = [1]
    for place in range(1, size):
        parts = [(k - exponent * (place - k)) * series[k] * found[place - k] for k in range(1, place + 1)]
        found.append(sum(parts) * inverse(place * exponent) % PRIME)
    return found


def first_remainder(series, base):
    """Return the remainder of two polynomials with the head 1, both from the head down, but for its last number."""
    left = list(series)
    size = len(base)
    least = len(left) - size
    for place in range(least):
        part = left[place]
        for k in range(size):
            left[place + k] = (left[place + k] - part * base[k]) % PRIME
    return left[least:-1]


def surely_none(step, degree):
    """Return True only if a step has no first part of a degree, a divisor of its own: it is not told in all cases."""
    tops = opened(step)[0]
    if tops[-1] % PRIME == 0:
        return False
    scale = inverse(tops[-1])
    series = [top * scale % PRIME for top in reversed(tops)]
    base = root_series(series, (len(step) - 1) // degree, degree)
    return any([rest != 0 for rest in first_remainder(series, base)])
