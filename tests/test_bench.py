"""14.1: a bench, beside a book that is made anew each time."""

import unittest

from ripewaves.bench import Bench
from ripewaves.books import Book, made_book
from ripewaves.days import latecomer
from ripewaves.errors import InRing, KnownNeed, NoBlock, NoChange, NoNeed, NothingDone, TooMany
from ripewaves.even import fewest, is_even
from oracle import Dice, has_ring, odd_things, outcome

LATE = Book((0, 1, 1), ((1, 0),))
NO_CHANGES = odd_things() + [3, 4, [0], (0,), "0", {0: 0}]
NO_BLOCKS = odd_things() + [50, 51, [0], (0,), "0", {0: 0}]
TELLERS = {"even": is_even, "fewest": fewest, "late": latecomer}


def bench_of(book):
    bench = Bench()
    for block in book.blocks:
        bench.lie(block)
    for change, other in book.needs:
        bench.need(change, other)
    return bench


class PlainBench:
    """All states of the book kept, each with what it has told."""

    def __init__(self):
        self.states = [((), frozenset(), {})]
        self.many = 0

    def deed(self, blocks, needs):
        self.states.append((tuple(blocks), frozenset(needs), {}))

    def check_changes(self, *things):
        for thing in things:
            if type(thing) is not int or not 0 <= thing < len(self.states[-1][0]):
                raise NoChange()

    def check_block(self, thing):
        if type(thing) is not int or not 0 <= thing < 50:
            raise NoBlock()

    def lie(self, block):
        self.check_block(block)
        blocks, needs, _ = self.states[-1]
        if len(blocks) >= 200:
            raise TooMany(200)
        self.deed(blocks + (block,), needs)
        return len(blocks)

    def shift(self, change, block):
        self.check_changes(change)
        self.check_block(block)
        blocks, needs, _ = self.states[-1]
        self.deed(blocks[:change] + (block,) + blocks[change + 1:], needs)

    def need(self, change, other):
        self.check_changes(change, other)
        blocks, needs, _ = self.states[-1]
        if (change, other) in needs:
            raise KnownNeed()
        if change == other or has_ring(len(blocks), needs | {(change, other)}):
            raise InRing()
        self.deed(blocks, needs | {(change, other)})

    def unneed(self, change, other):
        self.check_changes(change, other)
        blocks, needs, _ = self.states[-1]
        if (change, other) not in needs:
            raise NoNeed()
        self.deed(blocks, needs - {(change, other)})

    def undo(self):
        if len(self.states) == 1:
            raise NothingDone()
        self.states.pop()

    def book(self):
        blocks, needs, _ = self.states[-1]
        return Book(blocks, tuple(sorted(needs)))

    def tell(self, word):
        kept = self.states[-1][2]
        if word not in kept:
            kept[word] = TELLERS[word](self.book())
            self.many += 1
        return kept[word]

    def even(self):
        return self.tell("even")

    def fewest(self):
        return self.tell("fewest")

    def late(self):
        return self.tell("late")

    def worked(self):
        return self.many

    def copy(self):
        twin = PlainBench()
        twin.states = [(blocks, needs, dict(kept)) for blocks, needs, kept in self.states]
        twin.many = self.many
        return twin


def drawn_deed(dice, many, blocks):
    """A method's name and its arguments; many are wrong."""
    name = ("lie lie lie shift need need need need unneed unneed undo undo undo even even fewest fewest late late "
            "book").split()[dice.below(20)]
    if name == "lie":
        return name, (dice.below(blocks) if dice.below(20) else 50,)
    if name == "shift":
        return name, (dice.below(many + 2), dice.below(blocks) if dice.below(20) else -1)
    if name in ("need", "unneed"):
        return name, (dice.below(many + 1), dice.below(many + 1))
    return name, ()


class Beside(unittest.TestCase):
    def test_long_rows_of_deeds(self):
        for seed in range(30):
            dice = Dice(1400 + seed)
            bench, plain = Bench(), PlainBench()
            for _ in range(120):
                name, given = drawn_deed(dice, len(plain.states[-1][0]), 1 + seed % 4)
                if name == "lie" and len(plain.states[-1][0]) >= 9:
                    continue
                got, wanted = outcome(getattr(bench, name), *given), outcome(getattr(plain, name), *given)
                self.assertEqual((type(got), got), (type(wanted), wanted), (seed, name, given))
                self.assertEqual((bench.book(), bench.worked()), (plain.book(), plain.worked()), (seed, name))

    def test_copies_go_on_apart(self):
        for seed in range(30):
            dice = Dice(1450 + seed)
            pairs = [(Bench(), PlainBench())]
            for _ in range(120):
                bench, plain = pairs[dice.below(len(pairs))]
                if dice.below(12) == 0 and len(pairs) < 5:
                    pairs.append((bench.copy(), plain.copy()))
                name, given = drawn_deed(dice, len(plain.states[-1][0]), 3)
                if name == "lie" and len(plain.states[-1][0]) >= 7:
                    continue
                self.assertEqual(outcome(getattr(bench, name), *given), outcome(getattr(plain, name), *given))
                for one, other in pairs:
                    self.assertEqual((one.book(), one.worked()), (other.book(), other.worked()))


class Deeds(unittest.TestCase):
    def test_ordinary(self):
        bench = Bench()
        self.assertEqual(bench.book(), Book((), ()))
        self.assertEqual([bench.lie(block) for block in (0, 3, 1)], [0, 1, 2])
        self.assertIsNone(bench.need(1, 0))
        self.assertIsNone(bench.shift(1, 1))
        self.assertEqual(bench.book(), LATE)
        self.assertEqual((bench.even(), bench.fewest(), bench.late(), bench.worked()), (False, 2, (1, 0, 2), 3))
        self.assertIsNone(bench.unneed(1, 0))
        self.assertEqual((bench.book(), bench.even(), bench.late()), (Book((0, 1, 1), ()), True, None))
        self.assertIsNone(bench.undo())
        self.assertEqual((bench.book(), bench.worked()), (LATE, 5))

    def test_needs_ascend_whatever_the_order_of_deeds(self):
        bench = bench_of(Book((0, 0, 1, 1), ()))
        for change, other in ((3, 0), (1, 2), (3, 2), (1, 0)):
            bench.need(change, other)
        self.assertEqual(bench.book().needs, ((1, 0), (1, 2), (3, 0), (3, 2)))

    def test_lie(self):
        bench = Bench()
        for thing in NO_BLOCKS:
            with self.assertRaises(NoBlock):
                bench.lie(thing)
        self.assertEqual((bench.lie(49), bench.lie(0), bench.book().blocks), (0, 1, (49, 0)))

    def test_two_hundred_changes(self):
        bench = Bench()
        for number in range(200):
            self.assertEqual(bench.lie(number % 50), number)
        with self.assertRaises(TooMany) as caught:
            bench.lie(0)
        self.assertEqual(caught.exception.most, 200)
        for thing in NO_BLOCKS:
            with self.assertRaises(NoBlock):
                bench.lie(thing)
        bench.undo()
        self.assertEqual((bench.lie(7), len(bench.book().blocks)), (199, 200))

    def test_shift(self):
        bench = bench_of(LATE)
        for thing in NO_CHANGES:
            for block in (0, 50, thing):
                with self.assertRaises(NoChange):
                    bench.shift(thing, block)
        for thing in NO_BLOCKS:
            with self.assertRaises(NoBlock):
                bench.shift(0, thing)
        self.assertEqual(bench.book(), LATE)
        bench.shift(0, 49)
        self.assertEqual(bench.book(), Book((49, 1, 1), ((1, 0),)))
        bench.shift(0, 49)
        bench.undo()
        self.assertEqual(bench.book(), Book((49, 1, 1), ((1, 0),)))
        bench.undo()
        self.assertEqual(bench.book(), LATE)

    def test_need_and_unneed_of_what_is_no_change(self):
        bench = bench_of(LATE)
        for thing in NO_CHANGES:
            for function in (bench.need, bench.unneed):
                for other in (0, 1, thing):
                    with self.assertRaises(NoChange):
                        function(thing, other)
                with self.assertRaises(NoChange):
                    function(1, thing)
        self.assertEqual(bench.book(), LATE)

    def test_known_need_and_no_need(self):
        bench = bench_of(LATE)
        with self.assertRaises(KnownNeed):
            bench.need(1, 0)
        for pair in ((0, 1), (1, 2), (2, 0), (1, 1)):
            with self.assertRaises(NoNeed):
                bench.unneed(*pair)
        bench.need(2, 1)
        # it needs 0 however far, but not itself
        with self.assertRaises(NoNeed):
            bench.unneed(2, 0)
        bench.need(2, 0)
        with self.assertRaises(KnownNeed):
            bench.need(2, 0)

    def test_in_ring(self):
        bench = bench_of(Book((0, 1, 0), ((1, 0), (2, 1))))
        for pair in ((0, 0), (1, 1), (2, 2), (0, 1), (0, 2), (1, 2)):
            with self.assertRaises(InRing):
                bench.need(*pair)
        bench.unneed(1, 0)
        with self.assertRaises(InRing):
            bench.need(1, 2)
        bench.need(0, 2)
        with self.assertRaises(InRing):
            bench.need(1, 0)

    def test_undo_of_everything(self):
        bench = Bench()
        with self.assertRaises(NothingDone):
            bench.undo()
        dice = Dice(1460)
        books = []
        deeds = 0
        while deeds < 60:
            name, given = drawn_deed(dice, len(bench.book().blocks), 3)
            ahead = bench.book()
            if name in ("lie", "shift", "need", "unneed") and not isinstance(outcome(getattr(bench, name), *given),
                                                                             tuple):
                books.append(ahead)
                deeds += 1
        while books:
            bench.undo()
            self.assertEqual(bench.book(), books.pop())
        for _ in range(2):
            with self.assertRaises(NothingDone):
                bench.undo()
        self.assertEqual((bench.book(), bench.lie(3)), (Book((), ()), 0))


class Kept(unittest.TestCase):
    def test_what_was_told_is_kept_until_the_next_deed(self):
        bench = bench_of(LATE)
        self.assertEqual(bench.worked(), 0)
        for many, (word, told) in enumerate([("even", False), ("fewest", 2), ("late", (1, 0, 2))]):
            self.assertEqual((getattr(bench, word)(), bench.worked()), (told, many + 1))
            self.assertEqual((getattr(bench, word)(), bench.worked()), (told, many + 1))
        bench.shift(0, 0)
        self.assertEqual((bench.fewest(), bench.worked()), (2, 4))

    def test_none_is_kept_too(self):
        bench = bench_of(Book((0, 1), ()))
        self.assertEqual((bench.late(), bench.late(), bench.worked()), (None, None, 1))

    def test_it_comes_back_with_undo(self):
        bench = bench_of(LATE)
        bench.even()
        bench.lie(0)
        bench.even()
        bench.fewest()
        bench.unneed(1, 0)
        self.assertEqual(bench.worked(), 3)
        bench.undo()
        self.assertEqual((bench.even(), bench.fewest(), bench.worked()), (False, 2, 3))
        bench.undo()
        self.assertEqual((bench.even(), bench.worked()), (False, 3))
        self.assertEqual((bench.fewest(), bench.worked()), (2, 4))
        bench.undo()
        self.assertEqual((bench.book(), bench.even(), bench.worked()), (Book((0, 1, 1), ()), True, 5))

    def test_in_copies_too(self):
        bench = bench_of(LATE)
        bench.even()
        bench.lie(0)
        bench.fewest()
        twin = bench.copy()
        self.assertEqual((twin.fewest(), twin.worked(), type(twin)), (2, 2, Bench))
        twin.undo()
        self.assertEqual((twin.even(), twin.worked(), twin.book()), (False, 2, LATE))
        # what the copy tells from now on is not kept in the other one
        twin.late()
        self.assertEqual((twin.worked(), bench.worked()), (3, 2))
        bench.undo()
        self.assertEqual((bench.even(), bench.worked()), (False, 2))
        self.assertEqual((bench.late(), bench.worked()), ((1, 0, 2), 3))

    def test_a_refused_call_changes_neither_the_book_nor_what_is_kept(self):
        bench = bench_of(LATE)
        bench.even()
        bench.fewest()
        bench.late()
        for call, given in ((bench.lie, (50,)), (bench.shift, (3, 0)), (bench.shift, (0, -1)), (bench.need, (1, 0)),
                            (bench.need, (0, 1)), (bench.need, (0, 9)), (bench.unneed, (0, 1)), (bench.unneed, (9, 0))):
            self.assertIsInstance(outcome(call, *given), tuple)
            self.assertEqual((bench.book(), bench.even(), bench.fewest(), bench.late()), (LATE, False, 2, (1, 0, 2)))
            self.assertEqual(bench.worked(), 3)
        bench.undo()
        self.assertEqual(bench.book(), Book((0, 1, 1), ()))

    def test_too_many_is_not_kept_and_not_counted(self):
        bench = Bench()
        for block in range(10):
            bench.lie(block)
        self.assertEqual((bench.fewest(), bench.worked()), (10, 1))
        bench.lie(10)
        for _ in range(2):
            for call in (bench.even, bench.fewest):
                with self.assertRaises(TooMany) as caught:
                    call()
                self.assertEqual((caught.exception.most, bench.worked()), (2000, 1))
        self.assertEqual((bench.late(), bench.worked()), (None, 2))
        bench.undo()
        self.assertEqual((bench.fewest(), bench.worked(), bench.even(), bench.worked()), (10, 2, True, 3))


class Great(unittest.TestCase):
    def test_more_needs_than_a_book_may_have(self):
        bench = Bench()
        for number in range(100):
            bench.lie(number % 2)
        for change in range(100):
            for other in range(change):
                bench.need(change, other)
        book = bench.book()
        self.assertEqual(len(book.needs), 4950)
        self.assertEqual((bench.fewest(), bench.even(), bench.late()), (fewest(book), is_even(book), latecomer(book)))
        self.assertEqual(bench.fewest(), 100)
        with self.assertRaises(InRing):
            bench.need(0, 99)
        bench.undo()
        self.assertEqual(bench.book(), made_book(book.blocks, book.needs[:-1]))

    def test_books_and_answers_are_new(self):
        bench = bench_of(LATE)
        first = bench.book()
        bench.lie(0)
        self.assertEqual((first, len(bench.book().blocks)), (LATE, 4))
        self.assertFalse(bench == first)
        self.assertFalse(bench == bench.copy())


if __name__ == "__main__":
    unittest.main()
