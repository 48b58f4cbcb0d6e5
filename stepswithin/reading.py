"""Words of a text, read one after the other: numbers, steps and rows, not yet checked by their size."""

from math import gcd

from stepswithin.errors import BadText, TooGreat

MOST_WORDS = 600
MOST_FIGURES = 61


class Words:
    """The words of a line, and the place of the one that is read next."""

    def __init__(self, text, line):
        self.words = [word for word in text.split(" ") if word != ""]
        self.line = line
        self.place = 0

    def is_over(self):
        """Return whether all words are read."""
        return self.place == len(self.words)

    def ahead(self):
        """Return the word that is read next, refuse a line that ends too early or is too long."""
        if self.is_over():
            raise BadText(self.line, self.place)
        if self.place == MOST_WORDS:
            raise TooGreat(MOST_WORDS)
        return self.words[self.place]

    def take(self, told):
        """Return what the word ahead tells and pass it over, refuse it if this is None."""
        if told is None:
            raise BadText(self.line, self.place)
        self.place += 1
        return told

    def take_word(self, word):
        """Pass over the word ahead, refuse it if it is another one than told."""
        self.take(word if self.ahead() == word else None)

    def finish(self):
        """Refuse a word behind the last one."""
        if not self.is_over():
            self.ahead()
            self.take(None)


def count_told(word):
    """Return the integer from 0 on that figures without needless zeros tell, or None."""
    if not word.isascii() or not word.isdigit() or len(word) > MOST_FIGURES:
        return None
    return int(word) if word == "0" or word[0] != "0" else None


def integer_told(word):
    """Return the integer that a word tells, or None."""
    if not word.startswith("-"):
        return count_told(word)
    found = count_told(word[1:])
    return None if found is None or found == 0 else -found


def number_told(word):
    """Return the number that a word tells, or None."""
    if "/" not in word:
        found = integer_told(word)
        return None if found is None else (found, 1)
    above, _, below = word.partition("/")
    top, bottom = integer_told(above), count_told(below)
    if top is None or bottom is None or bottom < 2 or gcd(top, bottom) != 1:
        return None
    return top, bottom


def number_from(words):
    """Return the number that the word ahead tells."""
    return words.take(number_told(words.ahead()))


def step_from(words):
    """Return the tuple of numbers that the words ahead tell as a step."""
    words.take_word("[")
    found = [number_from(words)]
    while words.ahead() != "]":
        found.append(number_from(words))
    words.take_word("]")
    return tuple(found)


def row_from(words):
    """Return the tuple of steps that all words ahead tell as a row."""
    found = [step_from(words)]
    while not words.is_over():
        found.append(step_from(words))
    return tuple(found)
