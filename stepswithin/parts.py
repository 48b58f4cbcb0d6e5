"""All first parts of a step, and those that two steps have in common."""

from math import gcd, lcm

from stepswithin.errors import BadParameter
from stepswithin.parting import behind_or_break, candidate_of, has_part
from stepswithin.polynomials import LETTER
from stepswithin.steps import is_integer, need_step


def divisors(number):
    """Return the ascending list of the divisors of an integer from 1 on."""
    return [part for part in range(1, number + 1) if number % part == 0]


def part_degrees(step):
    """Return the ascending list of the degrees of the first parts of a step."""
    return [degree for degree in divisors(len(step) - 1) if has_part(step, degree)]


def cover_places(degrees):
    """Return the ascending list of the pairs of places of degrees, one dividing the other, with none between them."""
    found = []
    for low, degree in enumerate(degrees):
        above = [place for place in range(low + 1, len(degrees)) if degrees[place] % degree == 0]
        for high in above:
            between = [place for place in above if place < high and degrees[high] % degrees[place] == 0]
            if between == []:
                found.append((low, high))
    return found


def need_part_degrees(step, one, other):
    """Refuse what is no step, then what are no degrees of its first parts."""
    need_step(step)
    degrees = part_degrees(step)
    for degree in (one, other):
        if not is_integer(degree) or degree not in degrees:
            raise BadParameter(degree)


def first_degrees(step):
    """Return the ascending tuple of the degrees of the first parts of a step."""
    return tuple(part_degrees(need_step(step)))


def first_parts(step):
    """Return the ascending tuple of the plain first parts of a step."""
    need_step(step)
    return tuple([candidate_of(step, degree) for degree in part_degrees(step)])


def meeting(step, one, other):
    """Return the plain first part whose degree is the greatest common divisor of two degrees of first parts."""
    need_part_degrees(step, one, other)
    return candidate_of(step, gcd(one, other))


def joining(step, one, other):
    """Return the plain first part whose degree is the least common multiple of two degrees of first parts."""
    need_part_degrees(step, one, other)
    return candidate_of(step, lcm(one, other))


def covers(step):
    """Return the ascending tuple of the pairs of places of first parts between which no part lies."""
    return tuple(cover_places(part_degrees(need_step(step))))


def share_part(one, other, degree):
    """Return whether two steps have one plain first part of a degree that divides theirs."""
    if candidate_of(one, degree) != candidate_of(other, degree):
        return False
    return has_part(one, degree) and has_part(other, degree)


def greatest_shared(one, other):
    """Return the plain first part of the greatest degree that two steps have in common."""
    degrees = divisors(gcd(len(one) - 1, len(other) - 1))
    shared = [degree for degree in degrees if share_part(one, other, degree)]
    return candidate_of(one, shared[-1])


def common_first(one, other):
    """Return (FIRST, ONE, OTHER): the greatest common plain first part, and the last parts behind it."""
    need_step(one)
    need_step(other)
    first = greatest_shared(one, other)
    return first, behind_or_break(one, first)[0], behind_or_break(other, first)[0]


def are_apart(one, other):
    """Return whether two steps have X alone for a common plain first part."""
    need_step(one)
    need_step(other)
    return greatest_shared(one, other) == LETTER
