"""What a page can say of its numbers, steps and rows, and whether it is so."""

from stepswithin.commuting import commutes
from stepswithin.doing import led_on, product_of_degrees, refuse_great
from stepswithin.fullrows import is_unparted
from stepswithin.likeness import are_like
from stepswithin.parting import is_first_part
from stepswithin.polynomials import value_of
from stepswithin.reading import integer_told
from stepswithin.starts import comes_round

MOST_TIMES = 60
# by the kind of the first name and the word behind it: the words behind these, a kind for a name of it
FORMS = {
    "step at": "number is number",
    "step leads": "number to number in TIMES",
    "step unparted": "",
    "step part": "step",
    "step commutes": "step",
    "step rounds": "number",
    "row makes": "step",
    "row like": "row",
    "number below": "number",
}


def is_led(step, number, goal):
    """Return whether a step leads a number to a goal."""
    return value_of(step, number) == goal


def is_led_in(step, number, goal, times):
    """Return whether a step, done so many times, leads a number to a goal."""
    return led_on(step, number, times) == goal


def has_no_parts(step):
    """Return whether a step is unparted."""
    return is_unparted(step)


def begins(step, first):
    """Return whether a step is a first part of the one named ahead of it."""
    return is_first_part(step, first)


def do_commute(step, other):
    """Return whether two steps commute."""
    return commutes(step, other)


def does_round(step, number):
    """Return whether a number comes round by a step."""
    return comes_round(step, number) is not None


def have_same_whole(row, other):
    """Return whether two rows have one whole, refuse too great a degree of one, then of the other one."""
    refuse_great(row)
    refuse_great(other)
    return product_of_degrees(row) == product_of_degrees(other) and are_like(row, other)


def makes(row, step):
    """Return whether a step is the whole of a row."""
    return have_same_whole(row, (step,))


def is_below(number, other):
    """Return whether a number is less than another one."""
    return number[0] * other[1] < other[0] * number[1]


TRUTHS = {
    "step at": is_led,
    "step leads": is_led_in,
    "step unparted": has_no_parts,
    "step part": begins,
    "step commutes": do_commute,
    "step rounds": does_round,
    "row makes": makes,
    "row like": have_same_whole,
    "number below": is_below,
}


def times_told(word):
    """Return the number of times, from 1 to 60, that a word tells, or None."""
    found = integer_told(word)
    return found if found is not None and 1 <= found <= MOST_TIMES else None


def value_named(words, things, kind):
    """Return the value of the thing of a kind that the word ahead names."""
    name = words.ahead()
    return words.take(things[name][1] if name in things and things[name][0] == kind else None)


def saying_from(words, things):
    """Return (FORM, VALUES), the saying that the words ahead tell of things that are given."""
    name = words.ahead()
    kind, value = words.take(things.get(name))
    verb = words.ahead()
    form = f"{kind} {verb}"
    words.take(FORMS.get(form))
    values = [value]
    for part in FORMS[form].split():
        if part == "TIMES":
            values.append(words.take(times_told(words.ahead())))
        elif part in ("number", "step", "row"):
            values.append(value_named(words, things, part))
        else:
            words.take_word(part)
    words.finish()
    return form, values


def truth_of(form, values):
    """Return whether a saying of a form is so."""
    told = TRUTHS[form]
    return told(*values)
