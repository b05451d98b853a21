"""The text of a book."""


def words_of(numbers):
    """A blank and a number, for each of some numbers."""
    return "".join([f" {number}" for number in numbers])


def book_text(book):
    """A line with the blocks of a book, and one for each change that needs some."""
    needed = {}
    for change, other in book.needs:
        needed.setdefault(change, []).append(other)
    lines = ["blocks" + words_of(book.blocks) + "\n"]
    for change, others in needed.items():
        lines.append(f"{change} :" + words_of(others) + "\n")
    return "".join(lines)
