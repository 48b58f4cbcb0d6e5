"""Steps that commute with a step."""

from stepswithin.doing import MOST_WHOLE, refuse_great
from stepswithin.errors import BadParameter, NoRow, TooGreat
from stepswithin.kinds import need_crooked
from stepswithin.likeness import LOOKED_AT, are_like, greatest_unlike
from stepswithin.modulo import PRIME, led_along, rests_of
from stepswithin.roots import all_roots, power_of
from stepswithin.series import far_letter, rests_told_far, told_far
from stepswithin.steps import MOST_DEGREE, is_integer, need_number, need_step


def need_degree(step, degree):
    """Refuse what is no step, a straight step, then what is no integer from 1 to 64."""
    need_crooked(step)
    if not is_integer(degree) or degree < 1 or degree > MOST_DEGREE:
        raise BadParameter(degree)


def refuse_great_product(step, degree):
    """Refuse a degree whose product with that of the step is too great."""
    if (len(step) - 1) * degree > MOST_WHOLE:
        raise TooGreat(MOST_WHOLE)


def heads_of(step, degree):
    """Return the ascending tuple of the heads that steps of a degree may have if they commute with a step."""
    return all_roots(power_of(step[-1], degree - 1), len(step) - 2)


def try_of(step, degree, head):
    """Return the only step of a degree and a head that may commute with a step."""
    return told_far(far_letter(step, degree + 1, 0), degree, head)


def need_try(step, degree, head):
    """Return the try of a degree and a head, refuse what is none of these."""
    need_degree(step, degree)
    need_number(head)
    if head not in heads_of(step, degree):
        raise BadParameter(head)
    refuse_great_product(step, degree)
    return try_of(step, degree, head)


def surely_apart(step, degree, head, letter):
    """Return True only if the try of a degree and a head does not commute with a step: it is not told in all cases.

    The letter is the far letter of the step modulo the prime. What is below the head has only primes of what is below
    the head of the step.
    """
    rests = rests_of(step)
    if rests is None or letter[1] % PRIME == 0:
        return False
    told = rests_told_far(letter, degree, head)
    return led_along([rests, told], LOOKED_AT) != led_along([told, rests], LOOKED_AT)


def commuting_ones(step, degree, letter):
    """Return the ascending list of the steps of a degree that commute with a step."""
    found = []
    for head in heads_of(step, degree):
        if not surely_apart(step, degree, head, letter):
            told = try_of(step, degree, head)
            if are_like((step, told), (told, step)):
                found.append(told)
    return found


def break_of(step, told):
    """Return the greatest power at which the wholes of a try and the step, in both orders, are unlike, or None."""
    return greatest_unlike((told, step), (step, told), len(told))


def commutes(one, other):
    """Return whether two steps commute."""
    need_step(one)
    need_step(other)
    refuse_great((one, other))
    return are_like((one, other), (other, one))


def commuting_heads(step, degree):
    """Return the ascending tuple of the heads that steps of a degree may have if they commute with a step."""
    need_degree(step, degree)
    refuse_great_product(step, degree)
    return heads_of(step, degree)


def commuting_try(step, degree, head):
    """Return the only step of a degree and a head that may commute with a step."""
    return need_try(step, degree, head)


def commuting_break(step, degree, head):
    """Return the greatest power of X at which the try and the step, done in both orders, are unlike."""
    found = break_of(step, need_try(step, degree, head))
    if found is None:
        raise NoRow()
    return found


def is_commuting_break(step, degree, head, value):
    """Return whether a value of any kind is the greatest power at which the try shows that it does not commute."""
    found = break_of(step, need_try(step, degree, head))
    return found is not None and is_integer(value) and value == found


def commuting_with(step, degree):
    """Return the ascending tuple of all steps of a degree that commute with a step."""
    need_degree(step, degree)
    refuse_great_product(step, degree)
    return tuple(commuting_ones(step, degree, far_letter(step, degree + 1, PRIME)))


def commuting_degrees(step, most):
    """Return the ascending tuple of the degrees, up to `most`, of steps that commute with a step."""
    need_degree(step, most)
    refuse_great_product(step, most)
    letter = far_letter(step, most + 1, PRIME)
    return tuple([degree for degree in range(1, most + 1) if commuting_ones(step, degree, letter) != []])
