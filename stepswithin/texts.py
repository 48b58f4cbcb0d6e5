"""Numbers, steps and rows as texts: written, and read back."""

from stepswithin.errors import BadText
from stepswithin.reading import Words, number_from, row_from, step_from
from stepswithin.steps import need_number, need_row, need_step


def written_number(number):
    """Return the text of a checked number."""
    top, bottom = number
    return str(top) if bottom == 1 else f"{top}/{bottom}"


def written_step(step):
    """Return the text of a checked step."""
    return " ".join(["[", *[written_number(number) for number in step], "]"])


def words_of(text):
    """Return the words of a text, refuse what is no string."""
    if not isinstance(text, str):
        raise BadText(0, 0)
    return Words(text, 0)


def number_text(number):
    """Return the text of a number."""
    return written_number(need_number(number))


def step_text(step):
    """Return the text of a step."""
    return written_step(need_step(step))


def row_text(row):
    """Return the text of a row."""
    return " ".join([written_step(step) for step in need_row(row)])


def read_number(text):
    """Return the number that a text tells."""
    words = words_of(text)
    found = number_from(words)
    words.finish()
    return need_number(found)


def read_step(text):
    """Return the step that a text tells."""
    words = words_of(text)
    found = step_from(words)
    words.finish()
    return need_step(found)


def read_row(text):
    """Return the row that a text tells."""
    return need_row(row_from(words_of(text)))
