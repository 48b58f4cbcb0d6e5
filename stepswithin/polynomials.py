"""Arithmetic of numbers and of steps, of any size, without any check.

Where a polynomial is worked on for long, it is a pair (tops, bottom): the integers `tops` from C0 on, all of them
over the one integer `bottom` above 0. So common factors are looked for once, not at each sum and product.
"""

from math import gcd, lcm

LETTER = ((0, 1), (1, 1))


def fraction(top, bottom):
    """Return the number top / bottom; bottom is not 0."""
    shared = gcd(top, bottom)
    if bottom < 0:
        shared = -shared
    return (top // shared, bottom // shared)


def opposite(number):
    """Return a number with the other sign."""
    return (-number[0], number[1])


def product_of(one, other):
    """Return the product of two numbers."""
    return fraction(one[0] * other[0], one[1] * other[1])


def sum_of(one, other):
    """Return the sum of two numbers."""
    return fraction(one[0] * other[1] + other[0] * one[1], one[1] * other[1])


def difference_of(one, other):
    """Return one number less the other one."""
    return fraction(one[0] * other[1] - other[0] * one[1], one[1] * other[1])


def quotient_of(one, other):
    """Return one number over the other one, which is not 0."""
    return fraction(one[0] * other[1], one[1] * other[0])


def opened(numbers):
    """Return the pair (tops, bottom) of a tuple of numbers."""
    bottom = 1
    for _, part in numbers:
        bottom = lcm(bottom, part)
    return [top * (bottom // part) for top, part in numbers], bottom


def closed(tops, bottom):
    """Return the tuple of numbers of a pair (tops, bottom), without needless noughts at the end."""
    size = len(tops)
    while size > 0 and tops[size - 1] == 0:
        size -= 1
    return tuple([fraction(top, bottom) for top in tops[:size]])


def multiplied(one, other):
    """Return the product of two lists of integers, each read as a polynomial."""
    found = [0] * (len(one) + len(other) - 1)
    for low, left in enumerate(one):
        if left != 0:
            for high, right in enumerate(other):
                found[low + high] += left * right
    return found


def value_of(step, number):
    """Return the number to which a step leads a number."""
    tops, bottom = opened(step)
    found = tops[-1]
    scale = 1
    for top in reversed(tops[:-1]):
        scale *= number[1]
        found = found * number[0] + top * scale
    return fraction(found, bottom * scale)


def put_in(first, last):
    """Return the whole of the row (first, last)."""
    inner, below = opened(first)
    outer, bottom = opened(last)
    found = [outer[-1]]
    scale = 1
    for top in reversed(outer[:-1]):
        scale *= below
        found = multiplied(inner, found)
        found[0] += top * scale
    return closed(found, bottom * scale)


def whole_of(row):
    """Return the whole of a row of one step or more."""
    found = row[0]
    for step in row[1:]:
        found = put_in(found, step)
    return found


def plain_form(step):
    """Return the plain step and the straight one whose row has the step for its whole."""
    least, head = step[0], step[-1]
    middle = [quotient_of(number, head) for number in step[1:-1]]
    return ((0, 1), *middle, (1, 1)), (least, head)


def divided(above, base):
    """Return (quotient, rest) of two pairs (tops, bottom): the quotient as such a pair, the rest as numbers."""
    tops, bottom = above
    parts, below = base
    degree = len(parts) - 1
    size = max(0, len(tops) - degree)
    found = [0] * size
    common = 1
    for place in reversed(range(size)):
        lead = led(found, parts, place + degree, place + 1)
        part = fraction(tops[place + degree] * below * common - lead * bottom, bottom * common * parts[-1])
        grown = lcm(common, part[1])
        if grown != common:
            found = [top * (grown // common) for top in found]
            common = grown
        found[place] = part[0] * (common // part[1])
    rest = [tops[k] * below * common - led(found, parts, k, 0) * bottom for k in range(min(degree, len(tops)))]
    return (found, common), closed(rest, bottom * below * common)


def led(found, parts, power, least):
    """Return the sum of found[K] * parts[power - K] for all K from least on."""
    start = max(least, power - len(parts) + 1)
    return sum([found[k] * parts[power - k] for k in range(start, min(power + 1, len(found)))])


def ascending_steps(steps):
    """Return the list of some steps in ascending order."""
    bottom = 1
    for step in steps:
        bottom = lcm(bottom, opened(step)[1])
    return sorted(steps, key=lambda one: order_of(one, bottom))


def order_of(step, bottom):
    """Return what tells the place of a step among others; its numbers are integers over bottom."""
    return len(step), [top * (bottom // part) for top, part in reversed(step)]
