"""Powers and roots of numbers, of any size.

A number that is no power is mostly refused by a look at it modulo a few small primes: where the exponent divides a
prime less 1, only few rests are those of powers.
"""

from stepswithin.polynomials import opposite

MOST_LOOKS = 8
LEAST_LOOKED_AT = 2 ** 64


def integer_power(base, exponent):
    """Return the power of an integer; the exponent is an integer from 0 on."""
    found = 1
    factor = base
    left = exponent
    while left > 0:
        if left & 1:
            found *= factor
        left >>= 1
        if left > 0:
            factor *= factor
    return found


def power_of(number, exponent):
    """Return the power of a number; the exponent is an integer from 0 on."""
    return integer_power(number[0], exponent), integer_power(number[1], exponent)


def power_modulo(base, exponent, modulo):
    """Return the rest of the power of an integer."""
    found = 1
    factor = base % modulo
    left = exponent
    while left > 0:
        if left & 1:
            found = found * factor % modulo
        factor = factor * factor % modulo
        left >>= 1
    return found


def is_prime(number):
    """Return whether a small integer from 2 on is a prime."""
    part = 2
    while part * part <= number:
        if number % part == 0:
            return False
        part += 1
    return True


def looked_primes(exponent):
    """Return the list of the least primes which an exponent divides when they are lessened by 1."""
    found = []
    prime = 1
    while len(found) < MOST_LOOKS:
        prime += exponent
        if is_prime(prime):
            found.append(prime)
    return found


def power_marks(number, exponent):
    """Return a list of rests, one for each prime looked at: those of powers are 1, 0 tells nothing.

    Where two numbers have unlike rests but 0 at one place, one over the other is no power with the exponent.
    """
    found = []
    for prime in looked_primes(exponent):
        rest = number[0] * power_modulo(number[1], prime - 2, prime) % prime
        found.append(power_modulo(rest, (prime - 1) // exponent, prime))
    return found


def are_far(marks, others):
    """Return True only if one number over the other one is surely no power, as their marks tell."""
    return any([mark != other and mark != 0 and other != 0 for mark, other in zip(marks, others)])


def surely_no_power(value, exponent):
    """Return True only if an integer above 0 is no power with an exponent: it is not told in all cases."""
    return any([mark > 1 for mark in power_marks((value, 1), exponent)])


def root_below(value, exponent):
    """Return the greatest integer whose power is at most an integer above 0.

    The root of the upper half of the signs tells half of those of the root, so few steps of Newton's are left.
    """
    size = value.bit_length() // exponent
    if size < 2:
        guess = 4
    else:
        cut = size // 2
        guess = (root_below(value >> (cut * exponent), exponent) + 1) << cut
    while True:
        better = ((exponent - 1) * guess + value // integer_power(guess, exponent - 1)) // exponent
        if better >= guess:
            return guess
        guess = better


def exact_root(value, exponent):
    """Return the integer above 0 whose power is an integer above 0, or None."""
    if exponent == 1:
        return value
    if value >= LEAST_LOOKED_AT and surely_no_power(value, exponent):
        return None
    root = root_below(value, exponent)
    return root if integer_power(root, exponent) == value else None


def all_roots(number, exponent):
    """Return the ascending tuple of all numbers whose power with an exponent from 1 on is a number."""
    top, bottom = number
    if top == 0:
        return (number,)
    if top < 0 and exponent & 1 == 0:
        return ()
    above = exact_root(abs(top), exponent)
    below = exact_root(bottom, exponent)
    if above is None or below is None:
        return ()
    if exponent & 1 == 1:
        return ((above if top > 0 else -above, below),)
    return (opposite((above, below)), (above, below))
