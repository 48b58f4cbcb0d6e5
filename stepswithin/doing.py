"""Steps done one behind the other: rows and their wholes."""

from stepswithin.errors import BadParameter, TooGreat
from stepswithin.polynomials import LETTER, value_of, whole_of
from stepswithin.steps import GREATEST, is_integer, need_number, need_row, need_step

MOST_WHOLE = 256
MOST_TIMES = 60


def product_of_degrees(row):
    """Return the product of the degrees of a row that is checked already."""
    found = 1
    for step in row:
        found *= len(step) - 1
    return found


def refuse_great(row):
    """Refuse a checked row whose whole would have too great a degree."""
    if product_of_degrees(row) > MOST_WHOLE:
        raise TooGreat(MOST_WHOLE)


def refuse_great_numbers(numbers):
    """Refuse numbers of which one is greater than those of parameters may be."""
    if any([abs(top) > GREATEST or bottom > GREATEST for top, bottom in numbers]):
        raise TooGreat(GREATEST)


def led_on(step, start, times):
    """Return what a step leads a number to, both checked, in a number of times; refuse what is too great behind one."""
    number = start
    for _ in range(times):
        number = value_of(step, number)
        refuse_great_numbers((number,))
    return number


def row_degree(row):
    """Return the product of the degrees of a row, however great."""
    return product_of_degrees(need_row(row))


def whole(row):
    """Return the whole of a row."""
    need_row(row)
    refuse_great(row)
    return whole_of(row)


def numbers_along(row, start):
    """Return the tuple of the numbers behind each step of a row in turn, from a start on."""
    need_row(row)
    need_number(start)
    refuse_great(row)
    found = []
    number = start
    for step in row:
        number = value_of(step, number)
        found.append(number)
    return tuple(found)


def again(step, times):
    """Return the whole of so many times the step: X for none."""
    need_step(step)
    if not is_integer(times) or times < 0 or times > MOST_TIMES:
        raise BadParameter(times)
    row = [step] * times
    refuse_great(row)
    return whole_of([LETTER, *row])
