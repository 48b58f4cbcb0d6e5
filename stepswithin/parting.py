"""First parts of a told degree: the only candidate, and what shows that it is none."""

from math import lcm

from stepswithin.errors import BadParameter, NoRow
from stepswithin.modulo import surely_none
from stepswithin.polynomials import closed, divided, fraction, opened, quotient_of
from stepswithin.steps import is_integer, need_step


def candidate_of(step, degree):
    """Return the candidate of a degree, a divisor of the degree of the step.

    The step over its head, told in 1 / X, is a series 1 + S1 / X + ..; the candidate is its root with the exponent R.
    The derivatives of both tell each number of the root by those ahead of it.
    """
    exponent = (len(step) - 1) // degree
    series, below = opened([quotient_of(number, step[-1]) for number in step[-degree:]])
    series = series[::-1]
    found = [1]
    common = 1
    for place in range(1, degree):
        parts = [(k - exponent * (place - k)) * series[k] * found[place - k] for k in range(1, place + 1)]
        part = fraction(sum(parts), place * exponent * below * common)
        grown = lcm(common, part[1])
        found = [top * (grown // common) for top in found]
        common = grown
        found.append(part[0] * (common // part[1]))
    return ((0, 1), *closed(found[::-1], common))


def behind_or_break(step, base):
    """Return (G, None), G the last part of a step behind a base, or (None, BREAK) if the base is no first part."""
    left = opened(step)
    parts = opened(base)
    numbers = []
    while left[0] != []:
        left, rest = divided(left, parts)
        if len(rest) > 1:
            return None, (len(numbers), len(rest) - 1)
        numbers.append(rest[0] if rest != () else (0, 1))
    return tuple(numbers), None


def remainders_of(step, base, most):
    """Return the remainders, from the power 0 on and at most so many, by which a step is told in powers of a base."""
    left = opened(step)
    parts = opened(base)
    found = []
    while left[0] != [] and len(found) < most:
        left, rest = divided(left, parts)
        found.append(rest)
    return tuple(found)


def has_part(step, degree):
    """Return whether a step has a first part of a degree, a divisor of its own."""
    if degree == 1 or degree == len(step) - 1:
        return True
    if surely_none(step, degree):
        return False
    return behind_or_break(step, candidate_of(step, degree))[1] is None


def need_divisor(step, degree):
    """Refuse what is no step, then what is no divisor of its degree."""
    need_step(step)
    if not is_integer(degree) or degree < 1 or (len(step) - 1) % degree != 0:
        raise BadParameter(degree)


def candidate(step, degree):
    """Return the only plain step of a degree that can be a first part of a step."""
    need_divisor(step, degree)
    return candidate_of(step, degree)


def in_powers(step, base):
    """Return the remainders, from the power 0 on, by which a step is told in powers of a base."""
    need_step(step)
    need_step(base)
    return remainders_of(step, base, len(step))


def first_part(step, degree):
    """Return the plain first part of a degree."""
    need_divisor(step, degree)
    if not has_part(step, degree):
        raise NoRow()
    return candidate_of(step, degree)


def last_part(step, first):
    """Return the last part of a step behind a first part."""
    need_step(step)
    need_step(first)
    found = behind_or_break(step, first)[0]
    if found is None:
        raise NoRow()
    return found


def is_first_part(step, first):
    """Return whether a step is a first part of the other one."""
    need_step(step)
    need_step(first)
    return behind_or_break(step, first)[0] is not None


def first_break(step, degree):
    """Return the pair (I, J) that shows first why the candidate of a degree is no first part."""
    need_divisor(step, degree)
    found = behind_or_break(step, candidate_of(step, degree))[1]
    if found is None:
        raise NoRow()
    return found


def is_break(step, degree, value):
    """Return whether a value of any kind is a pair (I, J) such that X ** J stands in the I-th remainder."""
    need_divisor(step, degree)
    if not isinstance(value, tuple) or len(value) != 2:
        return False
    power, place = value
    if not is_integer(power) or not is_integer(place) or power < 0 or place < 1:
        return False
    remainders = remainders_of(step, candidate_of(step, degree), power + 1)
    return power < len(remainders) and place < len(remainders[power]) and remainders[power][place] != (0, 1)
