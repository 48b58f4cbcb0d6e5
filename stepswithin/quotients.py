"""What stands ahead of a told last part, and what shows that nothing does."""

from stepswithin.errors import BadParameter, NoRow
from stepswithin.modulo import surely_none
from stepswithin.parting import behind_or_break, candidate_of, is_break
from stepswithin.polynomials import difference_of, product_of, put_in, quotient_of
from stepswithin.roots import all_roots, power_of
from stepswithin.steps import MOST_DEGREE, is_integer, need_number, need_step


def degree_ahead(step, last):
    """Return the degree of what may stand ahead of a last part in a step, or None."""
    degree, rest = divmod(len(step) - 1, len(last) - 1)
    return degree if rest == 0 else None


def heads_ahead(step, last):
    """Return the ascending tuple of the heads of what may stand ahead of a last part in a step."""
    return all_roots(quotient_of(step[-1], last[-1]), len(last) - 1)


def straight_ahead(behind, last, head):
    """Return the straight step of a head ahead of `last` with which it agrees with `behind` at their highest powers.

    Both have one degree, and the power of the head, times the head of `last`, is the head of `behind`.
    """
    degree = len(last) - 1
    power = power_of(head, degree - 1)
    lack = difference_of(behind[-2], product_of(last[-2], power))
    return quotient_of(lack, product_of(product_of(last[-1], (degree, 1)), power)), head


def firsts_of(step, last):
    """Return the ascending list of all steps ahead of a last part that make a step with it."""
    degree = degree_ahead(step, last)
    if degree is None:
        return []
    heads = heads_ahead(step, last)
    if heads == () or surely_none(step, degree):
        return []
    first = candidate_of(step, degree)
    behind = behind_or_break(step, first)[0]
    if behind is None:
        return []
    ways = [straight_ahead(behind, last, head) for head in heads]
    return [put_in(first, way) for way in ways if put_in(way, last) == behind]


def unlike_powers(behind, last, heads):
    """Return, for each of the heads, the descending list of the powers at which `last` is unlike what is behind."""
    found = []
    for head in heads:
        told = put_in(straight_ahead(behind, last, head), last)
        found.append([power for power in reversed(range(len(told))) if told[power] != behind[power]])
    return found


def bar_of(step, last):
    """Return why nothing stands ahead of a last part in a step, the first reason that holds, or None."""
    degree = degree_ahead(step, last)
    if degree is None:
        return ("degree",)
    heads = heads_ahead(step, last)
    if heads == ():
        return ("head",)
    behind, gap = behind_or_break(step, candidate_of(step, degree))
    if behind is None:
        return ("part", *gap)
    powers = unlike_powers(behind, last, heads)
    return None if [] in powers else ("last", tuple([unlike[0] for unlike in powers]))


def are_unlike_at(step, last, value):
    """Return whether a value of any kind has for each head a power at which `last` and what is behind are unlike."""
    heads = heads_ahead(step, last)
    if heads == () or not isinstance(value, tuple) or len(value) != len(heads):
        return False
    behind = behind_or_break(step, candidate_of(step, degree_ahead(step, last)))[0]
    if behind is None:
        return False
    powers = unlike_powers(behind, last, heads)
    return all([is_integer(power) and power in powers[place] for place, power in enumerate(value)])


def firsts(step, last):
    """Return the ascending tuple of all steps H such that the row (H, last) makes a step."""
    need_step(step)
    need_step(last)
    return tuple(firsts_of(step, last))


def middles(step, first, last):
    """Return the ascending tuple of all steps M such that the row (first, M, last) makes a step."""
    need_step(step)
    need_step(first)
    need_step(last)
    behind = behind_or_break(step, first)[0]
    return () if behind is None else tuple(firsts_of(behind, last))


def both_firsts(one, last, other, far):
    """Return the ascending tuple of all H such that the row (H, last) makes `one`, and the row (H, far) `other`."""
    need_step(one)
    need_step(last)
    need_step(other)
    need_step(far)
    found = firsts_of(other, far)
    return tuple([step for step in firsts_of(one, last) if step in found])


def number_roots(number, degree):
    """Return the ascending tuple of all numbers whose power with an exponent is a number."""
    need_number(number)
    if not is_integer(degree) or degree < 1 or degree > MOST_DEGREE:
        raise BadParameter(degree)
    return all_roots(number, degree)


def first_bar(step, last):
    """Return why no step stands ahead of a last part in a step: the first reason that holds."""
    need_step(step)
    need_step(last)
    found = bar_of(step, last)
    if found is None:
        raise NoRow()
    return found


def is_first_bar(step, last, value):
    """Return whether a value of any kind says truly why no step stands ahead of a last part in a step."""
    need_step(step)
    need_step(last)
    if not isinstance(value, tuple) or len(value) == 0 or not isinstance(value[0], str):
        return False
    degree = degree_ahead(step, last)
    if degree is None or value[0] == "degree":
        return degree is None and value == ("degree",)
    if value[0] == "part":
        return is_break(step, degree, value[1:])
    if value[0] == "last":
        return len(value) == 2 and are_unlike_at(step, last, value[1])
    return value == ("head",) and heads_ahead(step, last) == ()
