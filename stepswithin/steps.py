"""Numbers, steps and rows: what they are, and what is told of one step."""

from math import gcd

from stepswithin.errors import BadNumber, BadRow, BadStep, NoRow
from stepswithin.polynomials import ascending_steps, opposite, plain_form, quotient_of, value_of

GREATEST = 10 ** 60
MOST_DEGREE = 64
MOST_STEPS = 8


def is_integer(value):
    """Return whether a value is an integer; True and False are none."""
    return isinstance(value, int) and not isinstance(value, bool)


def is_number(value):
    """Return whether a value is a number within the bounds of parameters."""
    if not isinstance(value, tuple) or len(value) != 2:
        return False
    top, bottom = value
    if not is_integer(top) or not is_integer(bottom):
        return False
    if abs(top) > GREATEST or bottom < 1 or bottom > GREATEST:
        return False
    return gcd(top, bottom) == 1


def is_step(value):
    """Return whether a value is a step within the bounds of parameters."""
    if not isinstance(value, tuple) or len(value) < 2 or len(value) > MOST_DEGREE + 1:
        return False
    return all([is_number(number) for number in value]) and value[-1] != (0, 1)


def need_number(value):
    """Return a number, refuse anything else."""
    if not is_number(value):
        raise BadNumber(value)
    return value


def need_step(value):
    """Return a step, refuse anything else."""
    if not is_step(value):
        raise BadStep(value)
    return value


def need_row(value):
    """Return a row, refuse anything else."""
    if not isinstance(value, tuple) or len(value) < 1 or len(value) > MOST_STEPS:
        raise BadRow(())
    for place, step in enumerate(value):
        if not is_step(step):
            raise BadRow((place,))
    return value


def degree_of(step):
    """Return the degree of a step."""
    return len(need_step(step)) - 1


def head_of(step):
    """Return the head of a step."""
    return need_step(step)[-1]


def is_plain(step):
    """Return whether the head of a step is 1 and its C0 is 0."""
    need_step(step)
    return step[0] == (0, 1) and step[-1] == (1, 1)


def value_at(step, number):
    """Return the number to which a step leads a number."""
    need_step(step)
    need_number(number)
    return value_of(step, number)


def plained(step):
    """Return (PLAIN, STRAIGHT): the row of a plain and a straight step that has the step for its whole."""
    return plain_form(need_step(step))


def straight_back(step):
    """Return the straight step that undoes a straight one."""
    if degree_of(step) != 1:
        raise NoRow()
    least, head = step
    return (opposite(quotient_of(least, head)), quotient_of((1, 1), head))


def in_order(steps):
    """Return the steps of a row in ascending order, as a tuple."""
    return tuple(ascending_steps(need_row(steps)))
