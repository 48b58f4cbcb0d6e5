"""A page: lines that give numbers, steps and rows names, and say or deny something of them."""

from stepswithin.errors import BadParameter, BadText, TooGreat
from stepswithin.reading import Words, number_from, row_from, step_from
from stepswithin.sayings import saying_from, truth_of
from stepswithin.steps import need_number, need_row, need_step

MOST_LINES = 200
MOST_SIGNS = 8
CAPITALS = "ABCDEFGHIJKLMNOPQRSTUVWXYZ"
FIGURES = "0123456789"


def lines_of(text):
    """Return the list of the lines that have words, refuse a text without them, or with too many lines."""
    if not isinstance(text, str):
        raise BadText(0, 0)
    lines = text.split("\n")
    found = [line for line in [Words(part, place) for place, part in enumerate(lines)] if not line.is_over()]
    if found == []:
        raise BadText(0, 0)
    if len(lines) > MOST_LINES:
        raise TooGreat(MOST_LINES)
    return found


def is_name(word):
    """Return whether a word is a capital letter and at most seven capital letters and figures."""
    return len(word) <= MOST_SIGNS and word[0] in CAPITALS and all([sign in CAPITALS + FIGURES for sign in word])


def thing_from(words, kind):
    """Return the pair (KIND, VALUE) of a thing that the words ahead, up to the last one, tell."""
    if kind == "row":
        return kind, need_row(row_from(words))
    if kind == "number":
        found = number_from(words)
        words.finish()
        return kind, need_number(found)
    found = step_from(words)
    words.finish()
    return kind, need_step(found)


def read_line(words, things, sayings):
    """Add what a line gives to the things, or what it says, as (LINE, IS_SAID, FORM, VALUES), to the sayings."""
    word = words.ahead()
    words.take(word if word in ("number", "step", "row", "say", "deny") else None)
    if word in ("say", "deny"):
        form, values = saying_from(words, things)
        sayings.append((words.line, word == "say", form, values))
    else:
        name = words.ahead()
        words.take(name if is_name(name) and name not in things else None)
        words.take_word("is")
        things[name] = thing_from(words, word)


class Page:
    """What a text gives names, and which of its sayings are so."""

    def __init__(self, text):
        lines = lines_of(text)
        self.things = {}
        sayings = []
        for line in lines:
            read_line(line, self.things, sayings)
        self.texts = [" ".join(line.words) for line in lines]
        self.rows = tuple([(line, truth_of(form, values) == said) for line, said, form, values in sayings])

    def all_true(self):
        """Return whether all that is said is so, and nothing that is denied."""
        return all([truth for _, truth in self.rows])

    def named(self, name):
        """Return the pair (KIND, VALUE) of what a name stands for."""
        if not isinstance(name, str) or name not in self.things:
            raise BadParameter(name)
        return self.things[name]

    def __eq__(self, other):
        return isinstance(other, Page) and self.texts == other.texts

    def __len__(self):
        return len(self.rows)

    def __iter__(self):
        return iter(self.rows)

    def __str__(self):
        return "\n".join(self.texts)
