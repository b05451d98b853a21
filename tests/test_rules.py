"""9.1: the six rules; 9.2: writers that see the ripe blocks alone."""

import unittest
from fractions import Fraction

from ripewaves.books import Book, beside
from ripewaves.errors import BadWriter, NoRule, TooMany
from ripewaves.even import fewest
from ripewaves.rules import beaten, blind_days, row_by, row_of_writer, rule_numbers, rule_shares
from ripewaves.standings import is_willing
from oracle import (
    CHAIN, WIDE, behind, bring, deep, odd_things, ripe_blocks, row_lengths, small_books, thrown_books, willing_rows,
)

EMPTY = Book((), ())
LATE = Book((0, 1, 1), ((1, 0),))
RULES = ["least", "greatest", "most", "few", "elder", "turn"]


def sample():
    return small_books() + thrown_books(91, 80, 8, 4) + thrown_books(92, 30, 14, 5) + [EMPTY, LATE]


def plain_choice(rule, book, there, row):
    """The block that a rule tells, by its words."""
    blocks = ripe_blocks(book, there)
    many = {block: len(bring(book, there, block)) for block in blocks}
    if rule == "least":
        return blocks[0]
    if rule == "greatest":
        return blocks[-1]
    if rule == "most":
        return [block for block in blocks if many[block] == max(many.values())][0]
    if rule == "few":
        return [block for block in blocks if many[block] == min(many.values())][0]
    if rule == "elder":
        return {bring(book, there, block)[0]: block for block in reversed(blocks)}[
            min(bring(book, there, block)[0] for block in blocks)]
    above = [block for block in blocks if row and block > row[-1]]
    return above[0] if above else blocks[0]


def plain_row_by(rule, book):
    there, row = (), []
    while len(there) < len(book.blocks):
        row.append(plain_choice(rule, book, there, row))
        there = behind(book, there, row[-1])
    return tuple(row)


def drawn_writer(seed):
    """A writer that gives the same to equal lists."""
    def writer(lots):
        total = seed
        for lot in lots:
            for block in lot:
                total = (total * 31 + block + 7) % 1009
        return lots[-1][total % len(lots[-1])]
    return writer


class Rules(unittest.TestCase):
    def test_against_plain_steps(self):
        for book in sample():
            for rule in RULES:
                self.assertEqual(row_by(book, rule), plain_row_by(rule, book), rule)

    def test_ordinary(self):
        # block 0 brings one change, block 1 two, block 2 one of them the eldest
        book = Book((2, 1, 1, 0, 0), ((4, 1),))
        told = {"least": (0, 1, 0, 2), "greatest": (2, 1, 0), "most": (1, 0, 2), "few": (0, 2, 1, 0),
                "elder": (2, 1, 0), "turn": (0, 1, 2, 0)}
        self.assertEqual({rule: row_by(book, rule) for rule in RULES}, told)
        self.assertEqual(rule_numbers(book), {"least": 4, "greatest": 3, "most": 3, "few": 4, "elder": 3, "turn": 4})

    def test_turn(self):
        self.assertEqual(row_by(Book((3, 1, 2), ()), "turn"), (1, 2, 3))
        # no ripe block lies above block 2, written last: so it is the least one
        book = Book((2, 0, 1), ((1, 0), (2, 0)))
        self.assertEqual(row_by(book, "turn"), (2, 0, 1))
        # block 1 lies above block 0, written last, but is not ripe: it is block 2
        book = Book((0, 1, 2, 0), ((1, 3), (3, 2)))
        self.assertEqual(row_by(book, "turn"), (0, 2, 0, 1))
        # never the block itself, which is not ripe behind its write
        self.assertEqual(row_by(Book((0, 1, 0), ((1, 0), (2, 1))), "turn"), (0, 1, 0))

    def test_without_changes_and_great_books(self):
        for rule in RULES:
            self.assertEqual(row_by(EMPTY, rule), ())
            self.assertEqual(len(row_by(CHAIN, rule)), 200)
            self.assertEqual(len(row_by(beside(CHAIN, CHAIN), rule)), 400)

    def test_no_rule(self):
        things = ["", "Least", "least ", " least", "fewest", "few\n", "leas", "turn turn", b"least", ["least"],
                  ("least",), {"least": 1}, 0, 1, True, None, [["least"]], ({"most": []},), deep(lambda k: [k], 40)]
        for thing in odd_things() + things:
            for book in (LATE, EMPTY, WIDE):
                with self.assertRaises(NoRule):
                    row_by(book, thing)


class Numbers(unittest.TestCase):
    def test_rule_numbers(self):
        for book in sample():
            numbers = rule_numbers(book)
            self.assertEqual(numbers, {rule: len(plain_row_by(rule, book)) for rule in RULES})
            if len(book.blocks) <= 8:
                self.assertLessEqual(set(numbers.values()), set(range(row_lengths(book)[-1] + 1)))

    def test_rule_shares(self):
        for book in sample():
            shares = rule_shares(book)
            self.assertEqual(sorted(shares), sorted(RULES))
            for rule, number in rule_numbers(book).items():
                share = Fraction(number, fewest(book)) if number else Fraction(1)
                self.assertEqual(shares[rule], (share.numerator, share.denominator))

    def test_ordinary(self):
        self.assertEqual(rule_shares(LATE)["greatest"], (3, 2))
        self.assertEqual(rule_shares(LATE)["least"], (1, 1))
        # four and six writes
        twice = beside(LATE, LATE)
        self.assertEqual((rule_numbers(twice)["greatest"], rule_shares(twice)["greatest"]), (6, (3, 2)))

    def test_of_a_book_without_changes(self):
        self.assertEqual(rule_numbers(EMPTY), {rule: 0 for rule in RULES})
        self.assertEqual(rule_shares(EMPTY), {rule: (1, 1) for rule in RULES})

    def test_too_many_is_of_shares_alone(self):
        with self.assertRaises(TooMany) as caught:
            rule_shares(WIDE)
        self.assertEqual(caught.exception.most, 2000)
        self.assertEqual(rule_numbers(WIDE), {rule: 11 for rule in RULES})


class Writers(unittest.TestCase):
    def test_drawn_writers(self):
        for book in sample():
            for seed in range(6):
                row = row_of_writer(drawn_writer(seed), book)
                self.assertIs(is_willing(book, (), row), True)
                seen, there = [], ()
                for block in row:
                    seen.append(tuple(ripe_blocks(book, there)))
                    self.assertEqual(drawn_writer(seed)(list(seen)), block)
                    there = behind(book, there, block)

    def test_all_willing_rows_are_made_by_some_writer(self):
        for book in small_books()[::5]:
            for row in willing_rows(book):
                self.assertEqual(row_of_writer(lambda lots: row[len(lots) - 1], book), row)

    def test_the_list_that_a_writer_is_called_with(self):
        book = Book((0, 0, 1, 1), ((1, 2), (3, 0)))
        calls = []

        def writer(lots):
            self.assertIs(type(lots), list)
            calls.append(list(lots))
            return lots[-1][-1]
        self.assertEqual(row_of_writer(writer, book), (1, 0, 1))
        self.assertEqual(calls, [[(0, 1)], [(0, 1), (0,)], [(0, 1), (0,), (1,)]])
        calls.clear()
        self.assertEqual(row_of_writer(writer, EMPTY), ())
        self.assertEqual(calls, [])

    def test_what_it_does_to_the_list_changes_nothing(self):
        for book in sample()[::4]:
            for seed in range(3):
                plain = row_of_writer(drawn_writer(seed), book)
                for spoil in (list.clear, list.pop, list.reverse, lambda lots: lots.append((99,))):
                    def writer(lots):
                        block = drawn_writer(seed)(lots)
                        spoil(lots)
                        return block
                    self.assertEqual(row_of_writer(writer, book), plain)

    def test_a_list_that_is_kept_is_not_changed_later(self):
        kept = []

        def writer(lots):
            kept.append(lots)
            return lots[-1][0]
        row_of_writer(writer, Book((0, 1, 0), ((1, 0), (2, 1))))
        self.assertEqual(kept, [[(0,)], [(0,), (1,)], [(0,), (1,), (0,)]])

    def test_bad_writer(self):
        wrong = odd_things() + [3, 1, [0], (0,), "0", {0: 0}, (0, 0)]
        book = Book((0, 1, 0), ((1, 0), (2, 1)))
        for thing in wrong:
            with self.assertRaises(BadWriter) as caught:
                row_of_writer(lambda lots: thing, book)
            self.assertEqual(caught.exception.row, ())
            with self.assertRaises(BadWriter) as caught:
                row_of_writer(lambda lots: 0 if len(lots) == 1 else 1 if len(lots) == 2 else thing, book)
            self.assertEqual(caught.exception.row, (0, 1))

    def test_flags_are_no_blocks(self):
        with self.assertRaises(BadWriter):
            row_of_writer(lambda lots: False, LATE)
        with self.assertRaises(BadWriter):
            row_of_writer(lambda lots: True, LATE)

    def test_errors_of_its_own_go_on(self):
        def writer(lots):
            raise KeyError(len(lots))
        with self.assertRaises(KeyError):
            row_of_writer(writer, LATE)
        with self.assertRaises(KeyError):
            beaten(writer)


class Blind(unittest.TestCase):
    def test_blind_days(self):
        self.assertEqual(blind_days(), (LATE, Book((1, 0, 0), ((1, 0),))))
        self.assertEqual(type(blind_days()), tuple)

    def test_beaten_against_the_two_books_gone_through(self):
        found = set()
        for seed in range(60):
            writer = drawn_writer(seed)
            rows = [row_of_writer(writer, book) for book in blind_days()]
            which = [len(row) for row in rows].index(3)
            got = beaten(writer)
            self.assertEqual(got[:2], (which, rows[which]))
            self.assertIs(is_willing(blind_days()[which], (), got[2]), True)
            self.assertEqual((len(got), len(got[2]), type(got)), (3, 2, tuple))
            found.add(which)
        self.assertEqual(found, {0, 1})

    def test_the_two_ways(self):
        self.assertEqual(beaten(lambda lots: lots[-1][0]), (1, (0, 1, 0), (1, 0)))
        self.assertEqual(beaten(lambda lots: lots[-1][-1]), (0, (1, 0, 1), (0, 1)))

    def test_bad_writer(self):
        for thing in odd_things() + [2, [0], "1", (0, 1)]:
            with self.assertRaises(BadWriter) as caught:
                beaten(lambda lots: thing)
            self.assertEqual(caught.exception.row, ())
        # two writes on the first book; on the second one it gives what is no ripe block there
        with self.assertRaises(BadWriter) as caught:
            beaten(lambda lots: len(lots) - 1)
        self.assertEqual(caught.exception.row, (0, 1))


if __name__ == "__main__":
    unittest.main()
