"""Reading a book from its text."""

from ripewaves.books import Book
from ripewaves.errors import BadText

MOST_FIGURES = 20
FIGURES = "0123456789"


def is_decimal(word, most):
    """Whether a word is a number of at most so many figures, without needless zeros."""
    if word == "" or len(word) > most:
        return False
    if word[0] == "0" and word != "0":
        return False
    return all([sign in FIGURES for sign in word])


def numbers_of(words, most):
    """The list of the numbers, of at most so many figures, that words tell, or None if one tells none."""
    if not all([is_decimal(word, most) for word in words]):
        return None
    return [int(word) for word in words]


def is_ascending(numbers):
    """Whether each of some numbers is greater than the one ahead."""
    return all([numbers[at] > numbers[at - 1] for at in range(1, len(numbers))])


def blocks_told(line):
    """The list of the blocks that a first line tells, or None if it has not the form."""
    words = line.split(" ")
    if words[0] != "blocks":
        return None
    return numbers_of(words[1:], MOST_FIGURES)


def needs_told(line, ahead):
    """The list of the needs that a further line tells, or None if it has not the form.

    Its first number must be greater than the one of the line ahead.
    """
    words = line.split(" ")
    if len(words) < 3 or words[1] != ":":
        return None
    numbers = numbers_of(words[:1] + words[2:], MOST_FIGURES)
    if numbers is None or numbers[0] <= ahead or not is_ascending(numbers[1:]):
        return None
    return [(numbers[0], other) for other in numbers[1:]]


def read_book(text):
    """The book that a text tells."""
    if not isinstance(text, str):
        raise BadText(0)
    lines = text.split("\n")
    blocks = blocks_told(lines[0])
    if blocks is None:
        raise BadText(1)
    needs = []
    ahead = -1
    for at in range(1, len(lines) - 1):
        told = needs_told(lines[at], ahead)
        if told is None:
            raise BadText(at + 1)
        needs.extend(told)
        ahead = told[0][0]
    # what stands behind the last line feed is no closed line, whatever form it has
    if lines[-1] != "":
        raise BadText(len(lines))
    return Book(tuple(blocks), tuple(needs))
