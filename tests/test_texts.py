"""15.1: the text of a book."""

import unittest

from ripewaves.books import Book, bared, beside, day, drawn_together, filled, parted, put_together
from ripewaves.cache import Cache
from ripewaves.texts import book_text
from oracle import small_books, thrown_books


def plain_text(book):
    lines = [["blocks"] + [str(block) for block in book.blocks]]
    for change in range(len(book.blocks)):
        others = [str(second) for first, second in book.needs if first == change]
        if others:
            lines.append([str(change), ":"] + others)
    return "".join(" ".join(line) + "\n" for line in lines)


class BookText(unittest.TestCase):
    def test_ordinary(self):
        self.assertEqual(book_text(Book((0, 1, 1), ((1, 0),))), "blocks 0 1 1\n1 : 0\n")
        self.assertEqual(book_text(Book((0, 0, 1, 1), ((1, 2), (3, 0)))), "blocks 0 0 1 1\n1 : 2\n3 : 0\n")
        self.assertEqual(book_text(Book((49, 3, 10), ((0, 1), (0, 2), (2, 1)))), "blocks 49 3 10\n0 : 1 2\n2 : 1\n")

    def test_without_changes(self):
        self.assertEqual(book_text(Book((), ())), "blocks\n")

    def test_without_needs(self):
        self.assertEqual(book_text(Book((7,), ())), "blocks 7\n")
        self.assertEqual(book_text(Book((0,) * 200, ())), "blocks" + " 0" * 200 + "\n")

    def test_as_defined(self):
        needs = tuple((a, b) for a in range(200) for b in range(a))[-4000:]
        for book in small_books() + thrown_books(91, 100, 12, 50) + [Book(tuple(range(50)) * 4, needs)]:
            self.assertEqual(book_text(book), plain_text(book))

    def test_books_that_were_returned(self):
        late = Book((0, 1, 1), ((1, 0),))
        great = Book(tuple(range(50)) * 4, tuple((k, k - 1) for k in range(1, 200)))
        cache = Cache((1, 1))
        for block in (0, 1, 0, 1):
            cache.change(block, 0, 5, ())
        books = [
            parted(great, 3), filled(great), beside(great, late), bared(filled(great)), put_together(late, 1, 0),
            day(great, (0, 7, 9, 199)), drawn_together((0, 0, 1), ((0, 1), (1, 0), (2, 1)))[0], cache.book()[0],
        ]
        for book in books:
            self.assertEqual(book_text(book), plain_text(book))
        self.assertEqual(book_text(beside(great, late)).split("\n")[-2], "201 : 200")
        self.assertEqual(book_text(parted(great, 3)).split()[4], "50")
        self.assertEqual(book_text(cache.book()[0]), "blocks 0 1 0 1\n2 : 0\n3 : 1\n")


if __name__ == "__main__":
    unittest.main()
