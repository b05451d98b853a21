"""15.1: reading a book from its text."""

import unittest

from ripewaves.books import Book, filled, parted
from ripewaves.errors import BadBook, BadText
from ripewaves.reading import read_book
from ripewaves.texts import book_text
from oracle import Dice, odd_things, small_books, thrown_books

NEEDS = tuple((a, b) for a in range(200) for b in range(a))[-4000:]
RIGHT = "blocks 0 1 1 10\n1 : 0 2\n3 : 0 1 2\n"


class ThereAndBack(unittest.TestCase):
    def test_ordinary(self):
        self.assertEqual(read_book("blocks 0 1 1\n1 : 0\n"), Book((0, 1, 1), ((1, 0),)))
        self.assertEqual(read_book("blocks\n"), Book((), ()))
        self.assertEqual(read_book("blocks 7\n"), Book((7,), ()))
        self.assertEqual(read_book(RIGHT), Book((0, 1, 1, 10), ((1, 0), (1, 2), (3, 0), (3, 1), (3, 2))))
        self.assertIs(type(read_book(RIGHT)), Book)

    def test_e09_there_and_back(self):
        late = Book((0, 1, 1), ((1, 0),))
        self.assertEqual(book_text(late), "blocks 0 1 1\n1 : 0\n")
        self.assertTrue(read_book(book_text(late)) == late)

    def test_what_book_text_tells_is_an_equal_book(self):
        great = Book(tuple(range(50)) * 4, NEEDS)
        chain = Book((0, 1) * 100, tuple((k, k - 1) for k in range(1, 200)))
        up = Book((0,) * 200, tuple((k, k + 1) for k in range(199)))
        books = small_books() + thrown_books(101, 150, 20, 50) + [great, chain, up, Book((49,) * 200, ())]
        for book in books + [filled(Book((0,) * 60, tuple((k, k - 1) for k in range(1, 60))))]:
            again = read_book(book_text(book))
            self.assertEqual((again.blocks, again.needs), (book.blocks, book.needs))
            self.assertEqual(again, book)
            self.assertEqual(book_text(again), book_text(book))

    def test_equal_calls_give_equal_answers(self):
        self.assertEqual(read_book(RIGHT), read_book(RIGHT))
        self.assertIsNot(read_book(RIGHT), read_book(RIGHT))


class BadTexts(unittest.TestCase):
    def bad(self, line, text):
        with self.assertRaises(BadText, msg=repr(text)) as caught:
            read_book(text)
        self.assertEqual(caught.exception.line, line, repr(text))
        self.assertIs(type(caught.exception.line), int)

    def test_no_string(self):
        for thing in odd_things() + [0, ["blocks\n"], ("blocks\n",), b"blocks\n", {"blocks\n": 1}, Book((), ())]:
            if not isinstance(thing, str):
                self.bad(0, thing)

    def test_the_first_line_is_lacking_or_not_closed(self):
        for text in ("", "blocks", "blocks 0 1", "b", " ", "0", "1 : 0"):
            self.bad(1, text)
        self.bad(1, "\n")
        self.bad(1, "\nblocks 0\n")

    def test_something_stands_behind_the_last_line_feed(self):
        self.bad(2, "blocks 0 1\n1 : 0")
        self.bad(2, "blocks 0 1\n ")
        self.bad(2, "blocks 0 1\nx")
        self.bad(3, "blocks 0 1\n1 : 0\nblocks")
        self.bad(4, RIGHT + "4 : 0")
        self.bad(4, RIGHT + "\n")
        self.bad(5, "blocks 0 1 1 1 1\n1 : 0\n2 : 0\n3 : 0\n4")

    def test_wrong_first_lines(self):
        for line in (
            "", "block 0", "Blocks 0", "blocks0", " blocks 0", "blocks  0", "blocks ", "blocks 0 ", "blocks 00", "0 1",
            "blocks 01", "blocks -1", "blocks +1", "blocks a", "blocks 0,1", "blocks 0  1", "blocks 1.0", "blocks :",
            "blocks 0 : 1", "blocks blocks", "blocks 1_0", "blocks 0x1", "blocks : 0 1", "blocks 00000000000000000000",
            "blocks 100000000000000000000", "blocks 0 999999999999999999999", "1 : 0", ":", "blocks 1e1", "blocks #",
        ):
            self.bad(1, line + "\n")
            self.bad(1, line + "\n1 : 0\n")
            self.bad(1, line + "\n1 :\nx")

    def test_wrong_further_lines(self):
        for line in (
            "", " ", "1", "1 :", "1 : ", "1:0", "1 :0", "1: 0", " 1 : 0", "1  : 0", "1 :  0", "1 : 0 ", "1 : 0  2",
            "01 : 0", "1 : 00", "1 : 02", "-1 : 0", "1 : -2", "+1 : 0", "1 : 2 0", "1 : 0 0", "1 : 0 2 2", ": 0",
            "1 ; 0", "1 : : 0", "1 : 0 : 2", "1 0", "1 0 2", "a : 0", "1 : a", "1 : 0,2", "blocks", "blocks 0", "1 - 0",
            "100000000000000000000 : 0", "1 : 100000000000000000000", "1 : 0 100000000000000000000", "1 : 3 1 2",
        ):
            self.bad(2, "blocks 0 1 1 10\n" + line + "\n")
            self.bad(2, "blocks 0 1 1 10\n" + line + "\n3 : 0\n")
            self.bad(2, "blocks 0 1 1 10\n" + line + "\nx")
            self.bad(3, "blocks 0 1 1 10\n0 : 3\n" + line + "\n")

    def test_first_numbers_that_do_not_ascend(self):
        self.bad(3, "blocks 0 1 1\n1 : 0\n1 : 2\n")
        self.bad(3, "blocks 0 1 1\n1 : 0\n1 : 0\n")
        self.bad(3, "blocks 0 1 1\n2 : 0\n1 : 0\n")
        self.bad(4, "blocks 0 1 1\n0 : 1\n2 : 0\n0 : 1\n")
        self.bad(2, "blocks 0 1\nblocks 0 1\n")
        self.bad(3, "blocks 0 1\n1 : 0\nblocks 0 1\n")

    def test_the_first_wrong_line_of_several(self):
        self.bad(2, "blocks 0 1 1\n1 : x\n1\n\n")
        self.bad(3, "blocks 0 1 1 1\n1 : 0\n2\n3 : 0\nx")
        self.bad(1, "blocks 01\n1\nx")

    def test_one_sign_left_out_put_in_or_exchanged(self):
        dice = Dice(102)
        for book in thrown_books(103, 60, 12, 12):
            text = book_text(book)
            for _ in range(40):
                at = dice.below(len(text))
                sign = "0123456789 :\nblocksx-~"[dice.below(21)]
                kind = dice.below(3)
                other = text[:at] + ("", sign, sign)[kind] + text[at + (kind != 1):]
                self.check(other)

    def check(self, text):
        """What is read is told as just this text; what is not read has a wrong line where a plain look finds it."""
        line = plain_wrong_line(text)
        if line is not None:
            self.bad(line, text)
            return
        try:
            book = read_book(text)
        except BadBook:
            return
        self.assertEqual(book_text(book), text)

    def test_twenty_figures_are_let(self):
        great = "9" * 20
        for text, part in (("blocks " + great + "\n", "blocks"), ("blocks 0\n" + great + " : 0\n", 0),
                           ("blocks 0 1\n0 : 1 " + great + "\n", 1)):
            with self.assertRaises(BadBook) as caught:
                read_book(text)
            self.assertEqual(caught.exception.part, part)
        self.bad(1, "blocks 1" + "0" * 20 + "\n")
        self.bad(2, "blocks 0\n1" + "0" * 20 + " : 0\n")
        self.bad(2, "blocks 0\n0 : 1" + "0" * 20 + "\n")


def plain_wrong_line(text):
    """The first line that has not its form, by a plain look at a text, or None."""
    closed = text.split("\n")[:-1]
    ahead = -1
    for at, line in enumerate(closed):
        words = line.split(" ")
        numbers = words[1:] if at == 0 else words[:1] + words[2:]
        right = all(word.isdigit() and str(int(word)) == word and len(word) < 21 for word in numbers)
        if at == 0:
            right = right and words[0] == "blocks"
        else:
            right = right and len(words) > 2 and words[1] == ":"
            if right:
                told = [int(word) for word in numbers]
                right = told[0] > ahead and told[1:] == sorted(set(told[1:]))
                ahead = told[0]
        if not right:
            return at + 1
    return len(closed) + 1 if not closed or text[-1] != "\n" else None


class BadBooks(unittest.TestCase):
    def bad(self, part, text):
        with self.assertRaises(BadBook) as caught:
            read_book(text)
        self.assertEqual(caught.exception.part, part)

    def test_parts(self):
        self.bad("blocks", "blocks 50\n")
        self.bad("blocks", "blocks" + " 0" * 201 + "\n")
        self.bad("blocks", "blocks 0 50\n0 : 0\n")
        self.bad(0, "blocks 0 1\n0 : 0\n")
        self.bad(0, "blocks 0 1\n2 : 0\n")
        self.bad(1, "blocks 0 1\n0 : 1 2\n")
        self.bad(2, "blocks 0 1 1\n0 : 1 2\n1 : 1\n")
        self.bad(0, "blocks\n0 : 1\n")

    def test_rings(self):
        self.bad("ring", "blocks 0 1\n0 : 1\n1 : 0\n")
        self.bad("ring", "blocks 0 1 2 3\n0 : 1\n1 : 2\n2 : 0 3\n")

    def test_too_many_needs(self):
        text = book_text(Book((0,) * 200, NEEDS))
        self.assertEqual(read_book(text).needs, NEEDS)
        self.bad("needs", text.replace("\n", "\n1 : 0\n", 1))

    def test_bad_text_ahead_of_bad_book(self):
        for text, line in (("blocks 50\n1 : x\n", 2), ("blocks 50", 1), ("blocks 0 1\n0 : 1\n1 : 0\n1", 4)):
            with self.assertRaises(BadText) as caught:
                read_book(text)
            self.assertEqual(caught.exception.line, line)

    def test_books_greater_than_a_book_lets(self):
        great = parted(Book(tuple(range(50)), ()), 3)
        self.assertEqual(book_text(great).split()[4], "50")
        self.bad("blocks", book_text(great))
        self.bad("needs", book_text(filled(Book((0,) * 200, tuple((k, k - 1) for k in range(1, 200))))))


if __name__ == "__main__":
    unittest.main()
