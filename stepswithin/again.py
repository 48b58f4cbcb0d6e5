"""Roots of a doing: steps that come to a step when done again, and common doings of two steps."""

from math import gcd

from stepswithin.doing import MOST_TIMES, refuse_great
from stepswithin.errors import BadParameter, NoRow
from stepswithin.kinds import need_crooked
from stepswithin.likeness import are_like, greatest_unlike, top_of_whole
from stepswithin.parting import candidate_of
from stepswithin.polynomials import difference_of, fraction, product_of, quotient_of
from stepswithin.roots import all_roots, integer_power, power_of
from stepswithin.steps import is_integer, need_number

# the degree 64 is the sixth power of 2: with the sixth powers of both degrees all that they share is seen
MOST_POWER = 6


def need_times(step, times):
    """Refuse what is no step, a straight step, then what is no integer from 1 to 60."""
    need_crooked(step)
    if not is_integer(times) or times < 1 or times > MOST_TIMES:
        raise BadParameter(times)


def degree_of_root(step, times):
    """Return the degree of the roots of a step for a number of times, or None."""
    found = all_roots((len(step) - 1, 1), times)
    return None if found == () else found[-1][0]


def heads_of_roots(step, times):
    """Return the ascending tuple of the heads that roots of a step may have."""
    degree = degree_of_root(step, times)
    if degree is None:
        return ()
    return all_roots(step[-1], (len(step) - 2) // (degree - 1))


def root_of(step, times, head):
    """Return the only step with one of these heads that may be a root of a step.

    Its numbers but the one at the power 0 are those of the candidate, times the head: they tell the highest numbers of
    the step. What the next number lacks is made by the one at the power 0, so many times the head of the step over that
    of the root.
    """
    degree = degree_of_root(step, times)
    begun = tuple([product_of(number, head) for number in candidate_of(step, degree)])
    tops, bottom = top_of_whole([begun] * times, degree + 1)
    lack = difference_of(step[-1 - degree], fraction(tops[degree], bottom))
    many = ((len(step) - 1) // degree, 1)
    return (quotient_of(product_of(lack, head), product_of(many, step[-1])), *begun[1:])


def need_root_try(step, times, head):
    """Return the try of a root with a head, refuse what is none of these."""
    need_times(step, times)
    need_number(head)
    if head not in heads_of_roots(step, times):
        raise BadParameter(head)
    return root_of(step, times, head)


def break_of_root(step, times, told):
    """Return the greatest power at which a try of a root, done so many times, and the step are unlike, or None."""
    return greatest_unlike((told,) * times, (step,), len(told))


def all_roots_of(step, times):
    """Return the ascending list of the roots of a step for a number of times."""
    tries = [root_of(step, times, head) for head in heads_of_roots(step, times)]
    return [told for told in tries if are_like((told,) * times, (step,))]


def root_degree(step, times):
    """Return the degree of the roots of a step for a number of times."""
    need_times(step, times)
    found = degree_of_root(step, times)
    if found is None:
        raise NoRow()
    return found


def root_heads(step, times):
    """Return the ascending tuple of the heads that roots of a step may have."""
    need_times(step, times)
    return heads_of_roots(step, times)


def root_try(step, times, head):
    """Return the only step with one of these heads that may be a root of a step."""
    return need_root_try(step, times, head)


def root_break(step, times, head):
    """Return the greatest power of X at which the try, done so many times, and the step are unlike."""
    found = break_of_root(step, times, need_root_try(step, times, head))
    if found is None:
        raise NoRow()
    return found


def is_root_break(step, times, head, value):
    """Return whether a value of any kind is the greatest power at which the try shows that it is no root."""
    found = break_of_root(step, times, need_root_try(step, times, head))
    return found is not None and is_integer(value) and value == found


def roots_of(step, times):
    """Return the ascending tuple of the roots of a step for a number of times."""
    need_times(step, times)
    return tuple(all_roots_of(step, times))


def most_times(step):
    """Return the greatest number of times for which a step has a root."""
    need_crooked(step)
    times = len(step).bit_length()
    while all_roots_of(step, times) == []:
        times -= 1
    return times


def least_times(one, other):
    """Return the least pair (K, L) such that one degree to the power K is the other one to the power L, or None."""
    for low in range(1, MOST_POWER + 1):
        for high in range(1, MOST_POWER + 1):
            if integer_power(one, low) == integer_power(other, high):
                return low, high
    return None


def heads_sign(one, other, degree):
    """Return 1 if the heads of two steps, done until both have a degree, are alike, -1 if opposite, 0 otherwise.

    The head of a step of the degree N is in the doing as often as N - 1 goes into the degree less 1. What both
    numbers have in common is left out, the sizes being above 0.
    """
    left, right = len(one) - 2, len(other) - 2
    shared = gcd(left, right)
    sizes = [power_of((abs(one[-1][0]), one[-1][1]), right // shared),
             power_of((abs(other[-1][0]), other[-1][1]), left // shared)]
    if sizes[0] != sizes[1]:
        return 0
    below = [step for step in (one, other) if step[-1][0] < 0 and (degree - 1) // (len(step) - 2) & 1 == 1]
    return -1 if len(below) == 1 else 1


def common_doing(one, other):
    """Return (PAIR, None), PAIR the least times for which both doings are one, or (None, BREAK) if there is none."""
    times = least_times(len(one) - 1, len(other) - 1)
    if times is None:
        return None, ("degrees",)
    degree = integer_power(len(one) - 1, times[0])
    sign = heads_sign(one, other, degree)
    if sign == 0 or (sign == -1 and degree & 1 == 0):
        return None, ("heads",)
    low, high = times if sign == 1 else (2 * times[0], 2 * times[1])
    left, right = (one,) * low, (other,) * high
    refuse_great(left)
    place = greatest_unlike(left, right, 1)
    if place is None:
        return (low, high), None
    return None, ("again", low, high, place)


def need_both(one, other):
    """Refuse what is no step or a straight one, first of one value, then of the other one."""
    need_crooked(one)
    need_crooked(other)


def common_again(one, other):
    """Return the least pair (K, L) such that one step done K times is the other one done L times, or None."""
    need_both(one, other)
    return common_doing(one, other)[0]


def common_break(one, other):
    """Return why no number of times of one step is one of the other step."""
    need_both(one, other)
    found = common_doing(one, other)[1]
    if found is None:
        raise NoRow()
    return found


def is_common_break(one, other, value):
    """Return whether a value of any kind is what `common_break` returns."""
    need_both(one, other)
    found = common_doing(one, other)[1]
    if found is None or not isinstance(value, tuple) or len(value) != len(found):
        return False
    if not isinstance(value[0], str) or not all([is_integer(part) for part in value[1:]]):
        return False
    return value == found
