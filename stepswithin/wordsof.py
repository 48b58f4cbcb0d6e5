"""Words: rows of some steps told by their indexes, and which of them have one whole."""

from stepswithin.doing import MOST_WHOLE, product_of_degrees, refuse_great
from stepswithin.errors import BadParameter, NoRow, TooGreat
from stepswithin.likeness import LOOKED_AT, are_like
from stepswithin.modulo import led_along, rests_of_row
from stepswithin.polynomials import LETTER, value_of, whole_of
from stepswithin.roots import integer_power
from stepswithin.steps import MOST_STEPS, is_integer, need_number, need_row, need_step

MOST_LETTERS = 8
MOST_WORDS = 400


def need_word(word, size):
    """Refuse what is no tuple of one to eight indexes of so many steps."""
    if not isinstance(word, tuple) or len(word) < 1 or len(word) > MOST_LETTERS:
        raise BadParameter(word)
    if not all([is_integer(letter) and 0 <= letter < size for letter in word]):
        raise BadParameter(word)


def need_words(steps, most):
    """Refuse what is no integer from 1 to 8, too many words of at most so many letters, then too great a degree."""
    if not is_integer(most) or most < 1 or most > MOST_LETTERS:
        raise BadParameter(most)
    if sum([integer_power(len(steps), length) for length in range(1, most + 1)]) > MOST_WORDS:
        raise TooGreat(MOST_WORDS)
    if integer_power(max([len(step) - 1 for step in steps]), most) > MOST_WHOLE:
        raise TooGreat(MOST_WHOLE)


def row_of(steps, word):
    """Return the row of steps that a word tells; X for the empty word."""
    return tuple([steps[letter] for letter in word]) if word != () else (LETTER,)


def left_over(one, other):
    """Return the pair of what is left of two words behind the letters with which both begin."""
    place = 0
    while place < min(len(one), len(other)) and one[place] == other[place]:
        place += 1
    return one[place:], other[place:]


def have_one_whole(steps, one, other):
    """Return whether two words whose wholes have one degree are alike: exactly if what is left of them is."""
    left, right = left_over(one, other)
    return left == right or are_like(row_of(steps, left), row_of(steps, right))


def words_to(size, most):
    """Return the ascending list of all words of 1 to `most` letters below a size."""
    found = []
    longest = [()]
    for _ in range(most):
        longest = [(*word, letter) for word in longest for letter in range(size)]
        found.extend(longest)
    return found


def marks_of(steps, words):
    """Return a dict of the marks of words; words with unlike marks are not alike."""
    rests = rests_of_row(steps)
    found = {}
    for word in words:
        number = 0 if rests is None else led_along([rests[letter] for letter in word], LOOKED_AT)
        found[word] = (product_of_degrees(row_of(steps, word)), number)
    return found


def known_like(firsts, word):
    """Return the first word that is alike to a word by what is known of its first and of its last letters, or None."""
    if len(word) == 1:
        return None
    for like in ((*firsts[word[:-1]], word[-1]), (word[0], *firsts[word[1:]])):
        if like != word:
            return firsts[like]
    return None


def are_words_like(steps, firsts, one, other):
    """Return whether two words of one degree are alike; of shorter words than `other` this is known."""
    left, right = left_over(one, other)
    if left != one and left != () and right != ():
        return firsts[left] == firsts[right]
    return are_like(row_of(steps, left), row_of(steps, right))


def first_words(steps, most):
    """Return a dict that tells for each word of 1 to `most` letters, ascending, the first one that is alike to it.

    Words of which shorter parts are known to be alike need no work, nor do those with unlike marks.
    """
    words = words_to(len(steps), most)
    marks = marks_of(steps, words)
    bearers = {mark: [] for mark in marks.values()}
    firsts = {}
    for word in words:
        like = known_like(firsts, word)
        if like is None:
            group = bearers[marks[word]]
            found = [other for other in group if are_words_like(steps, firsts, other, word)]
            like = found[0] if found != [] else word
            if like == word:
                group.append(word)
        firsts[word] = like
    return firsts


def classes_to(steps, most):
    """Return the list of the classes of words of 1 to `most` letters that are alike, ascending by their first ones."""
    firsts = first_words(steps, most)
    found = {}
    for word, first in firsts.items():
        found.setdefault(first, []).append(word)
    return [tuple(group) for group in found.values()]


def word_whole(steps, word):
    """Return the whole of the row that a word tells."""
    need_row(steps)
    need_word(word, len(steps))
    row = row_of(steps, word)
    refuse_great(row)
    return whole_of(row)


def word_numbers(steps, word, start):
    """Return the tuple of the numbers behind each letter of a word in turn, from a start on."""
    need_row(steps)
    need_word(word, len(steps))
    need_number(start)
    refuse_great(row_of(steps, word))
    found = []
    number = start
    for letter in word:
        number = value_of(steps[letter], number)
        found.append(number)
    return tuple(found)


def words_alike(steps, one, other):
    """Return whether two words have one whole."""
    need_row(steps)
    need_word(one, len(steps))
    need_word(other, len(steps))
    left, right = row_of(steps, one), row_of(steps, other)
    refuse_great(left)
    refuse_great(right)
    return product_of_degrees(left) == product_of_degrees(right) and have_one_whole(steps, one, other)


def parting_number(one, other):
    """Return the least integer from 0 on to which two steps lead unlike numbers."""
    need_step(one)
    need_step(other)
    if one == other:
        raise NoRow()
    number = 0
    while value_of(one, (number, 1)) == value_of(other, (number, 1)):
        number += 1
    return number


def struck_out(one, other):
    """Return the pair of what is left of two words behind the letters with which both begin."""
    need_word(one, MOST_STEPS)
    need_word(other, MOST_STEPS)
    return left_over(one, other)


def relations(steps, most):
    """Return the ascending tuple of the pairs of alike words of 1 to `most` letters with unlike first letters."""
    need_row(steps)
    need_words(steps, most)
    found = []
    for group in classes_to(steps, most):
        for place, other in enumerate(group):
            found.extend([(one, other) for one in group[:place] if one[0] != other[0]])
    return tuple(sorted(found, key=lambda pair: [(len(word), word) for word in pair]))


def is_free_to(steps, most):
    """Return whether no two unlike words of 1 to `most` letters are alike."""
    need_row(steps)
    need_words(steps, most)
    return all([word == first for word, first in first_words(steps, most).items()])


def word_classes(steps, most):
    """Return the tuple of the classes of alike words of 1 to `most` letters, ascending by their first ones."""
    need_row(steps)
    need_words(steps, most)
    return tuple(classes_to(steps, most))


def word_of(steps, step, most):
    """Return the first word of 1 to `most` letters whose whole is a step."""
    need_row(steps)
    need_step(step)
    need_words(steps, most)
    for word in words_to(len(steps), most):
        row = row_of(steps, word)
        if product_of_degrees(row) == len(step) - 1 and are_like(row, (step,)):
            return word
    raise NoRow()
