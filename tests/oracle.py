"""What the tests share: steps from plain numbers, and slow, simple ways to work out what the package tells."""

import random
from fractions import Fraction

from stepswithin.errors import StepError

GREAT = 10 ** 60
X = ((0, 1), (1, 1))

# what is no number, of each kind
BAD_NUMBERS = [
    None, 1, 0, True, "1", 1.5, Fraction(1, 2), (), (1,), (1, 2, 3), [1, 2], (1, 0), (1, -1), (-1, -2), (0, 2), (2, 4),
    (True, 1), (1, True), (False, 1), (1.0, 1), (1, 1.0), ("1", 1), (None, 1), ((1, 1), 1), (0, 0),
    (GREAT + 1, 1), (-GREAT - 1, 1), (1, GREAT + 1), {1: 1}, {1, 2}, b"ab",
]

# what is no step, of each kind
BAD_STEPS = [
    None, 1, True, "step", 1.5, (), (1, 1), ((1, 1),), ((0, 1),), [(0, 1), (1, 1)], ((0, 1), (0, 1)), ((1, 1), (0, 1)),
    ((0, 1), [1, 1]), ((0, 1), (2, 2)), ((0, 2), (1, 1)), ((0, 1), (1, 0)), ((0, 1), 1), ((0, 1), (True, 1)),
    ((0, 1), (1.0, 1)), ((0, 1), (GREAT + 1, 1)), ((1, GREAT + 1), (1, 1)), ((0, 1), (1, 1), (0, 1)),
    ((0, 1),) * 65 + ((1, 1),), {0: (0, 1)},
]

# what is no integer from 1 to 60
BAD_COUNTS = [None, True, False, -1, "2", 2.0, (2,), [2], Fraction(2)]


def pair(number):
    """Return a fraction, an integer or a text like "1/2" as a number of the package."""
    told = Fraction(number)
    return (told.numerator, told.denominator)


def step(*numbers):
    """Return the step with the numbers C0, C1, .."""
    return tuple(pair(number) for number in numbers)


def power(degree):
    """Return X ** degree."""
    return step(*[0] * degree, 1)


def fractions_of(told):
    """Return the numbers of a step as fractions."""
    return [Fraction(top, bottom) for top, bottom in told]


def value(told, number):
    """Return the value of a step at a fraction."""
    return sum(part * number ** k for k, part in enumerate(fractions_of(told)))


def times(one, other):
    """Return the product of two polynomials, lists of fractions."""
    found = [Fraction(0)] * (len(one) + len(other) - 1)
    for i, left in enumerate(one):
        for j, right in enumerate(other):
            found[i + j] += left * right
    return found


def composed(*row):
    """Return the whole of a row: each step put into the next one, power by power."""
    found = fractions_of(row[0])
    for told in row[1:]:
        total = [Fraction(0)]
        factor = [Fraction(1)]
        for part in fractions_of(told):
            size = max(len(total), len(factor))
            total = [
                (total[k] if k < len(total) else 0) + (part * factor[k] if k < len(factor) else 0) for k in range(size)
            ]
            factor = times(factor, found)
        found = total
    return step(*found)


def some_number(rng, most=6, below=3):
    """Return a random fraction."""
    return Fraction(rng.randint(-most, most), rng.randint(1, below))


def some_step(rng, degree, most=6, below=3):
    """Return a random step of a degree."""
    head = Fraction(0)
    while head == 0:
        head = some_number(rng, most, below)
    return step(*[some_number(rng, most, below) for _ in range(degree)], head)


def some_plain(rng, degree, most=6, below=3):
    """Return a random plain step of a degree."""
    return step(0, *[some_number(rng, most, below) for _ in range(degree - 1)], 1)


def new_random(seed):
    """Return a random source that is the same in each run."""
    return random.Random(seed)


def refused(call, *parts):
    """Return the error of the package that a call raises, by its class's name and its attributes, or None."""
    try:
        call(*parts)
    except StepError as error:
        return (error.__class__.__name__, *vars(error).values())
    return None


def same(one, other):
    """Return whether two values are alike, and alike in kind all through: 1, 1.0 and True are not."""
    if type(one) is not type(other):
        return False
    if isinstance(one, tuple):
        return len(one) == len(other) and all(same(left, right) for left, right in zip(one, other))
    return one == other


def divided(told, base):
    """Return (quotient, rest) of two lists of fractions, by long division."""
    rest = list(told)
    found = [Fraction(0)] * max(0, len(told) - len(base) + 1)
    while len(rest) >= len(base):
        part = rest[-1] / base[-1]
        place = len(rest) - len(base)
        found[place] = part
        for k, number in enumerate(base):
            rest[place + k] -= part * number
        rest.pop()
    while rest and rest[-1] == 0:
        rest.pop()
    return found, rest


def remainders(told, base):
    """Return the remainders of a step in powers of a base, as lists of fractions."""
    left = fractions_of(told)
    found = []
    while left:
        left, rest = divided(left, fractions_of(base))
        found.append(rest)
    return found


def candidate(told, degree):
    """Return the candidate, one number after the other by looking at the whole power each time."""
    numbers = fractions_of(told)
    exponent = (len(told) - 1) // degree
    found = [Fraction(0)] * degree + [Fraction(1)]
    for place in range(1, degree):
        power_told = [numbers[-1]]
        for _ in range(exponent):
            power_told = times(power_told, found)
        found[degree - place] = (numbers[-1 - place] - power_told[-1 - place]) / (exponent * numbers[-1])
    return step(*found)


def last_behind(told, first):
    """Return the last part behind a first part, or None."""
    rests = remainders(told, first)
    if any(len(rest) > 1 for rest in rests):
        return None
    return step(*[rest[0] if rest else 0 for rest in rests])


def degrees(told):
    """Return the degrees of the first parts of a step."""
    size = len(told) - 1
    return [d for d in range(1, size + 1) if size % d == 0 and last_behind(told, candidate(told, d)) is not None]


def rows(told):
    """Return all plain full rows of a step: an unparted plain first part, then all rows of what is behind it."""
    found = []
    for degree in degrees(told)[1:]:
        first = candidate(told, degree)
        if len(degrees(first)) == 2:
            if degree == len(told) - 1:
                found.append((told,))
            else:
                found.extend((first, *row) for row in rows(last_behind(told, first)))
    return found


def dickson(degree, number):
    """Return Dickson's step by its rule, for a fraction."""
    ahead, found = [Fraction(2)], [Fraction(0), Fraction(1)]
    for _ in range(degree - 1):
        longer = [Fraction(0), *found]
        for k, part in enumerate(ahead):
            longer[k] -= number * part
        ahead, found = found, longer
    return step(*found)


def power_pair(rng, exponent, low, size):
    """Return a row of two steps whose whole is a straight step behind (Y ** S P(Y ** N)) ** N, and (S, P)."""
    shift, between, last = some_step(rng, 1), some_step(rng, 1), some_step(rng, 1)
    inner = [some_number(rng, 3, 1) for _ in range(size)] + [Fraction(1)]
    behind = [Fraction(1)]
    for _ in range(exponent):
        behind = times(behind, inner)
    behind = step(*[0] * low, *behind)
    first = composed(shift, power(exponent), between)
    return first, composed(back(between), behind, last)


def dickson_pair(rng, low, high, number):
    """Return a row of two steps whose whole is Dickson's but for straight steps."""
    shift, between, last = some_step(rng, 1), some_step(rng, 1), some_step(rng, 1)
    first = composed(shift, dickson(low, number), between)
    return first, composed(back(between), dickson(high, number ** low), last)


def back(straight):
    """Return the straight step that undoes a straight one."""
    least, head = fractions_of(straight)
    return step(-least / head, 1 / head)


def whole_root(value, degree):
    """Return the integer from 0 on whose power is an integer from 0 on, or None."""
    low, high = 0, 1
    while high ** degree <= value:
        high *= 2
    while high - low > 1:
        half = (low + high) // 2
        low, high = (half, high) if half ** degree <= value else (low, half)
    return low if low ** degree == value else None


def rational_roots(number, degree):
    """Return the ascending list of all fractions whose power is a fraction."""
    top, bottom = whole_root(abs(number.numerator), degree), whole_root(number.denominator, degree)
    if top is None or bottom is None:
        return []
    return sorted(one for one in {Fraction(top, bottom), Fraction(-top, bottom)} if one ** degree == number)


def middle(told):
    """Return the middle of a step as a fraction."""
    numbers = fractions_of(told)
    return numbers[-2] / (numbers[-1] * (len(told) - 1))
