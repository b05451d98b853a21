"""11.2: what needs a log surely shows, never has, or leaves open; the freest and the fullest book."""

import unittest

from ripewaves.books import Book, filled
from ripewaves.errors import BadBlocks, NoLog, TooMany
from ripewaves.even import fewest
from ripewaves.rules import row_by
from ripewaves.standings import many_rows
from ripewaves.toldback import (
    fewest_needs, freest_book, fullest_book, is_log, log_of, makes, never_needs, open_needs, other_rows, sure_needs,
)
from oracle import CHAIN, books_by_log, odd_things, plain_log, reach, thrown_books, willing_rows
from test_toldback import LOG, WRONG_BLOCKS, drawn_logs, otherwise

BLOCKS = [
    (), (0,), (0, 0), (0, 1), (0, 0, 1), (0, 1, 0), (1, 0, 0), (0, 1, 2), (0, 0, 1, 1), (0, 1, 0, 1), (0, 1, 1, 0),
    (0, 0, 0, 1), (1, 0, 0, 0), (0, 1, 2, 0), (2, 0, 1, 1),
]
ALL_OF_A_LOG = (
    sure_needs, never_needs, open_needs, fewest_needs, freest_book, fullest_book, other_rows,
)


def far_pairs(book):
    far = reach(len(book.blocks), book.needs)
    return {(change, other) for change, lot in enumerate(far) for other in lot}


def all_pairs(blocks):
    return {(a, b) for a in range(len(blocks)) for b in range(len(blocks)) if a != b}


def late_and_between(log):
    """For each late change all that came behind the last write of its block ahead of its own, and ahead of this."""
    table = {}
    for at, (block, lot) in enumerate(log):
        elder = [k for k in range(at) if log[k][0] == block]
        if elder:
            came = sorted(change for _, other in log[elder[-1] + 1:at] for change in other)
            table.update({change: came for change in lot})
    return table


class AgainstAllBooks(unittest.TestCase):
    def test_sure_never_and_open(self):
        for blocks in BLOCKS:
            for log, books in books_by_log(blocks).items():
                pairs = [far_pairs(book) for book in books]
                sure = set.intersection(*pairs)
                some = set.union(*pairs)
                self.assertEqual(sure_needs(blocks, log), sorted(sure))
                self.assertEqual(never_needs(blocks, log), sorted(all_pairs(blocks) - some))
                self.assertEqual(open_needs(blocks, log), sorted(some - sure))

    def test_fewest_and_freest(self):
        for blocks in BLOCKS:
            for log, books in books_by_log(blocks).items():
                least = min(len(book.needs) for book in books)
                self.assertEqual(fewest_needs(blocks, log), least)
                free = freest_book(blocks, log)
                self.assertEqual(len(free.needs), least)
                self.assertIn(free, books)

    def test_fullest(self):
        for blocks in BLOCKS:
            for log, books in books_by_log(blocks).items():
                self.assertIn(fullest_book(blocks, log), books)


class Drawn(unittest.TestCase):
    def test_the_three_kinds_of_pairs(self):
        for book, log in drawn_logs(115, 100):
            blocks = book.blocks
            three = sure_needs(blocks, log), never_needs(blocks, log), open_needs(blocks, log)
            for pairs in three:
                self.assertEqual(pairs, sorted(set(pairs)))
            self.assertEqual(sorted(three[0] + three[1] + three[2]), sorted(all_pairs(blocks)))
            self.assertLessEqual(set(three[0]), far_pairs(book))
            self.assertEqual(set(three[1]) & far_pairs(book), set())

    def test_the_freest_and_the_fullest_book_make_it(self):
        for book, log in drawn_logs(116, 100):
            for told in (freest_book(book.blocks, log), fullest_book(book.blocks, log)):
                self.assertEqual(told.blocks, book.blocks)
                self.assertIs(makes(told, log), True)

    def test_the_fullest_book_has_each_change_need_all_that_came_ahead(self):
        for book, log in drawn_logs(117, 100):
            needs = []
            for at, (_, lot) in enumerate(log):
                ahead = [change for _, other in log[:at] for change in other]
                needs.extend((change, other) for change in lot for other in ahead)
            self.assertEqual(fullest_book(book.blocks, log), Book(book.blocks, tuple(sorted(needs))))

    def test_one_need_for_each_late_change(self):
        for book, log in drawn_logs(118, 100):
            between = late_and_between(log)
            self.assertEqual(fewest_needs(book.blocks, log), len(between))
            for change, other in freest_book(book.blocks, log).needs:
                self.assertIn(other, between[change])

    def test_other_rows(self):
        for book, log in drawn_logs(119, 60):
            needs = sorted((change, came[0]) for change, came in late_and_between(log).items())
            free = Book(book.blocks, tuple(needs))
            self.assertEqual(other_rows(book.blocks, log), len(willing_rows(free)))
            self.assertEqual(other_rows(book.blocks, log), many_rows(free))


class Ordinary(unittest.TestCase):
    def test_one_late_change(self):
        blocks = (0, 1, 1)
        self.assertEqual(sure_needs(blocks, LOG), [(1, 0)])
        self.assertEqual(never_needs(blocks, LOG), [(0, 1), (2, 0), (2, 1)])
        self.assertEqual(open_needs(blocks, LOG), [(0, 2), (1, 2)])
        self.assertEqual((fewest_needs(blocks, LOG), freest_book(blocks, LOG)), (1, Book(blocks, ((1, 0),))))
        self.assertEqual(fullest_book(blocks, LOG), Book(blocks, ((0, 2), (1, 0), (1, 2))))
        self.assertEqual(other_rows(blocks, LOG), 2)

    def test_what_all_between_surely_need(self):
        # 3 came late, behind 1 or 2; each of these is late and needs 0
        blocks = (3, 1, 2, 0, 1, 2, 0)
        log = ((0, (6,)), (1, (4,)), (2, (5,)), (3, (0,)), (1, (1,)), (2, (2,)), (0, (3,)))
        self.assertIs(is_log(blocks, log), True)
        self.assertEqual([pair for pair in sure_needs(blocks, log) if pair[0] == 3], [])
        log = ((0, (6,)), (1, (4,)), (2, (5,)), (0, (3,)), (3, (0,)), (1, (1,)), (2, (2,)))
        # 1 came behind 5, 3 and 0; 2 behind 3, 0 and 1: nothing is sure for both
        self.assertEqual(sure_needs(blocks, log), [])
        chain = ((0, (0,)), (1, (1,)), (0, (2,)), (1, (3,)))
        self.assertEqual(sure_needs((0, 1, 0, 1), chain), [(2, 1), (3, 1), (3, 2)])

    def test_together_in_one_write_all_is_open(self):
        self.assertEqual(open_needs((0, 0), ((0, (0, 1)),)), [(0, 1), (1, 0)])
        self.assertEqual(fullest_book((0, 0), ((0, (0, 1)),)), Book((0, 0), ()))

    def test_the_empty_log_of_no_blocks(self):
        told = [function((), ()) for function in ALL_OF_A_LOG]
        self.assertEqual(told, [[], [], [], 0, Book((), ()), Book((), ()), 1])


class Great(unittest.TestCase):
    def test_a_chain_of_two_hundred(self):
        log = log_of(CHAIN, tuple(k % 3 for k in range(200)))
        blocks = CHAIN.blocks
        self.assertEqual(fewest_needs(blocks, log), 197)
        self.assertEqual(len(never_needs(blocks, log)), 200 * 199 // 2)
        self.assertEqual(len(sure_needs(blocks, log)) + len(open_needs(blocks, log)), 200 * 199 // 2)
        self.assertIs(makes(freest_book(blocks, log), log), True)
        full = fullest_book(blocks, log)
        self.assertEqual((len(full.needs), makes(full, log), full), (19900, True, filled(CHAIN)))
        self.assertEqual(fewest(full), 200)

    def test_two_blocks_by_turns(self):
        blocks = (0, 1) * 100
        log = tuple((k % 2, (k,)) for k in range(200))
        sure = [(change, other) for change in range(200) for other in range(1, change)]
        self.assertEqual(sure_needs(blocks, log), sure)
        self.assertEqual(open_needs(blocks, log), [(change, 0) for change in range(1, 200)])
        self.assertEqual(freest_book(blocks, log), Book(blocks, tuple((k, k - 1) for k in range(2, 200))))
        self.assertEqual(other_rows(blocks, log), 2)

    def test_too_many(self):
        blocks = tuple(range(11))
        log = tuple((block, (block,)) for block in range(11))
        with self.assertRaises(TooMany) as caught:
            other_rows(blocks, log)
        self.assertEqual(caught.exception.most, 2000)
        self.assertEqual(fewest_needs(blocks, log), 0)

    def test_logs_of_greater_books(self):
        for book in thrown_books(120, 10, 40, 6):
            log = plain_log(book, row_by(book, "turn"))
            self.assertIs(makes(freest_book(book.blocks, log), log), True)
            self.assertIs(makes(fullest_book(book.blocks, log), log), True)
            self.assertLessEqual(set(sure_needs(book.blocks, log)), far_pairs(book))


class Wrong(unittest.TestCase):
    def test_bad_blocks_then_no_log(self):
        for function in ALL_OF_A_LOG:
            for blocks in WRONG_BLOCKS:
                for log in (LOG, None, blocks):
                    with self.assertRaises(BadBlocks):
                        function(blocks, log)
            for log in odd_things() + otherwise((0, 1, 1), LOG) + [(), 0, 1, LOG[:2], [LOG], (LOG,)]:
                with self.assertRaises(NoLog):
                    function((0, 1, 1), log)
            with self.assertRaises(NoLog):
                function((), ((0, (0,)),))

    def test_no_log_ahead_of_too_many(self):
        blocks = tuple(range(11))
        with self.assertRaises(NoLog):
            other_rows(blocks, tuple((block, (block,)) for block in range(10)))


if __name__ == "__main__":
    unittest.main()
