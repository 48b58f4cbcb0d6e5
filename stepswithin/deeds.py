"""The deeds of a house: what is one, and what it makes of the things that are there under names.

Things are dicts of pairs (KIND, VALUE), told by their names. No deed changes the things that it is given.
"""

from stepswithin.doing import led_on, product_of_degrees, refuse_great_numbers
from stepswithin.errors import BadDeed, BadParameter, StepError, TooGreat
from stepswithin.polynomials import whole_of
from stepswithin.steps import MOST_DEGREE, is_integer, need_number, need_step

GREATEST_NAME = 19
MOST_AGAIN = 6
MOST_LED = 60
MOST_DEEDS = 60


def is_between(value, least, most):
    """Return whether a value is an integer from one to another one."""
    return is_integer(value) and least <= value <= most


def is_name(value):
    """Return whether a value can be a name."""
    return is_between(value, 0, GREATEST_NAME)


def is_kind(value):
    """Return whether a value is a kind of things."""
    return isinstance(value, str) and value in ("step", "number")


def is_deed(value):
    """Return whether a value is a deed."""
    if not isinstance(value, tuple) or len(value) < 2 or not isinstance(value[0], str) or not is_name(value[1]):
        return False
    word, rest = value[0], value[2:]
    if word == "put":
        return len(rest) == 2 and is_kind(rest[0])
    if word == "drop":
        return rest == ()
    if word == "behind":
        return len(rest) == 1 and is_name(rest[0])
    if word == "again":
        return len(rest) == 1 and is_between(rest[0], 1, MOST_AGAIN)
    return word == "lead" and len(rest) == 2 and is_name(rest[0]) and is_between(rest[1], 1, MOST_LED)


def need_deeds(deeds):
    """Refuse what is no tuple, more than 60 things, then the first of them that is no deed."""
    if not isinstance(deeds, tuple):
        raise BadDeed(0)
    if len(deeds) > MOST_DEEDS:
        raise BadDeed(MOST_DEEDS)
    for place, deed in enumerate(deeds):
        if not is_deed(deed):
            raise BadDeed(place)


def thing_of(things, name, kind):
    """Return the value of a thing of a kind, refuse a name without one."""
    if name not in things or things[name][0] != kind:
        raise BadParameter(name)
    return things[name][1]


def whole_let(row):
    """Return the whole of a row, refuse too great a degree ahead of work and too great numbers behind it."""
    if product_of_degrees(row) > MOST_DEGREE:
        raise TooGreat(MOST_DEGREE)
    found = whole_of(row)
    refuse_great_numbers(found)
    return found


def put_under(things, name, kind, value):
    """Return the thing that a name gets that is not in use."""
    if name in things:
        raise BadParameter(name)
    return (kind, need_step(value) if kind == "step" else need_number(value))


def changed(things, deed):
    """Return (NAME, THING): what a deed other than drop makes of which name."""
    word, name = deed[0], deed[1]
    if word == "put":
        return name, put_under(things, name, deed[2], deed[3])
    step = thing_of(things, name, "step")
    if word == "behind":
        return name, ("step", whole_let((step, thing_of(things, deed[2], "step"))))
    if word == "again":
        return name, ("step", whole_let((step,) * deed[2]))
    number = thing_of(things, deed[2], "number")
    return deed[2], ("number", led_on(step, number, deed[3]))


def done(things, deed):
    """Return the things behind a deed."""
    if deed[0] == "drop":
        if deed[1] not in things:
            raise BadParameter(deed[1])
        return {name: thing for name, thing in things.items() if name != deed[1]}
    name, thing = changed(things, deed)
    return {**things, name: thing}


def done_ahead(things, deeds):
    """Return (how many deeds are done ahead of the first refused one, the things behind these)."""
    many = 0
    for deed in deeds:
        try:
            things = done(things, deed)
        except StepError:
            return many, things
        many += 1
    return many, things
