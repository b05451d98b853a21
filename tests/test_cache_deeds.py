"""10.2: drop, sync, flush, cut and copy; long rows of deeds beside a plain model; what the disk has."""

import unittest

from ripewaves.books import Book
from ripewaves.cache import Cache
from ripewaves.errors import Needed, NoChange, NoNumbers, NotWaiting, TooMany
from ripewaves.even import shortest
from model import PlainCache
from oracle import Dice, odd_things
from test_cache import told


def filled_cache(changes, sizes):
    cache = Cache(sizes)
    for block, field, worth, needs in changes:
        cache.change(block, field, worth, needs)
    return cache


def woven(lengths):
    """A cache in which two and two blocks have so many changes by turns, each needing the one ahead."""
    cache = Cache((1,) * 8)
    for at, many in enumerate(lengths):
        ahead = ()
        for turn in range(many):
            ahead = (cache.change(2 * at + turn % 2, 0, turn, ahead),)
    return cache


class Drop(unittest.TestCase):
    def test_the_field_has_its_elder_worth(self):
        cache = filled_cache([(0, 0, 5, ()), (0, 1, 6, ()), (0, 0, 7, ())], (2,))
        cache.drop(2)
        self.assertEqual((cache.seen(0), cache.picture(0), cache.last(0, 0)), ((5, 6), (5, 6), 0))
        cache.write(0)
        self.assertEqual(cache.change(0, 0, 8, ()), 3)
        cache.drop(3)
        self.assertEqual((cache.seen(0), cache.disk(0), cache.last(0, 0)), ((5, 6), (5, 6), None))

    def test_behind_a_write_the_elder_worth_is_that_of_the_disk(self):
        cache = filled_cache([(0, 0, 5, ()), (1, 0, 6, ()), (0, 0, 7, (1,))], (1, 1))
        self.assertEqual(cache.write(0), (0,))
        cache.drop(2)
        self.assertEqual((cache.seen(0), cache.waiting(), cache.history()), ((5,), (1,), [(0, (0,))]))
        self.assertEqual((cache.writes(), cache.ripe()), (1, (1,)))

    def test_the_first_worth(self):
        cache = filled_cache([(0, 0, 5, ())], (1,))
        self.assertIsNone(cache.drop(0))
        self.assertEqual((cache.seen(0), cache.waiting(), cache.ripe()), ((0,), (), ()))
        self.assertEqual(cache.book(), (Book((), ()), ()))
        self.assertIs(cache.gone(0), True)

    def test_as_if_it_had_never_been(self):
        dice = Dice(81)
        for _ in range(60):
            sizes = (2, 1, 2)
            cache, again = Cache(sizes), Cache(sizes)
            for number in range(8):
                block = dice.below(3)
                given = (block, dice.below(sizes[block]), dice.below(9), drawn_lot(dice, range(number), 3))
                cache.change(*given)
                again.change(*given)
            block = dice.below(3)
            cache.change(block, 0, 77, drawn_lot(dice, range(8), 2))
            cache.drop(8)
            self.assertEqual(told(cache, sizes), told(again, sizes))
            for block in (0, 1, 2, 1, 0):
                self.assertEqual(cache.write(block), again.write(block))
            self.assertEqual(told(cache, sizes), told(again, sizes))

    def test_numbers_go_on(self):
        cache = filled_cache([(0, 0, 5, ())], (1,))
        cache.drop(0)
        self.assertEqual(cache.change(0, 0, 6, ()), 1)
        self.assertEqual((cache.gone(0), cache.gone(1)), (True, False))

    def test_not_waiting(self):
        cache = filled_cache([(0, 0, 5, ()), (0, 0, 6, ()), (1, 0, 7, ())], (1, 1))
        cache.write(0)
        cache.drop(2)
        for thing in odd_things() + [0, 1, 2, 3, 10 ** 58, (0,), "2"]:
            with self.assertRaises(NotWaiting):
                cache.drop(thing)
        self.assertEqual((cache.gone(0), cache.gone(1), cache.gone(2)), (False, False, True))

    def test_needed_with_the_least(self):
        changes = [(0, 0, 1, ()), (1, 0, 1, ()), (1, 1, 1, ()), (0, 0, 2, (2,)), (1, 0, 2, (0, 1)), (1, 1, 3, (0,))]
        cache = filled_cache(changes, (1, 2))
        before = told(cache, (1, 2))
        for number, other in ((0, 3), (1, 4), (2, 3)):
            with self.assertRaises(Needed) as caught:
                cache.drop(number)
            self.assertEqual(caught.exception.other, other)
        self.assertEqual(told(cache, (1, 2)), before)
        cache.drop(3)
        for number, other in ((0, 4), (1, 4), (2, 5)):
            with self.assertRaises(Needed) as caught:
                cache.drop(number)
            self.assertEqual(caught.exception.other, other)
        for number in (5, 4, 2, 1, 0):
            cache.drop(number)
        self.assertEqual(cache.waiting(), ())
        self.assertEqual((cache.seen(0), cache.seen(1)), ((0,), (0, 0)))

    def test_what_was_needed_by_gone_ones_alone_may_be_dropped(self):
        cache = filled_cache([(0, 0, 1, ()), (1, 0, 1, (0,))], (1, 1))
        cache.drop(1)
        cache.drop(0)
        self.assertEqual((cache.waiting(), cache.seen(0), cache.seen(1)), ((), (0,), (0,)))


class Sync(unittest.TestCase):
    def test_ordinary(self):
        cache = filled_cache([(0, 0, 5, ()), (1, 0, 7, (0,)), (0, 0, 6, (1,))], (1, 1))
        self.assertEqual((cache.picture(0), cache.seen(0), cache.sync((2,)), cache.writes(), cache.disk(0)),
                         ((5,), (6,), (0, 1, 0), 3, (6,)))
        self.assertEqual(cache.history(), [(0, (0,)), (1, (1,)), (0, (2,))])

    def test_until_just_these_are_there(self):
        cache = filled_cache([(0, 0, 1, ()), (1, 0, 1, ()), (2, 0, 1, ()), (2, 0, 2, (1,))], (1, 1, 1))
        self.assertEqual(cache.sync((3,)), (1, 2))
        self.assertEqual((cache.waiting(), cache.writes()), ((0,), 2))

    def test_all_are_there(self):
        cache = filled_cache([(0, 0, 1, ()), (1, 0, 1, ())], (1, 1))
        cache.write(0)
        for numbers in ((), (0,)):
            self.assertEqual(cache.sync(numbers), ())
        self.assertEqual((cache.writes(), cache.waiting()), (1, (1,)))
        self.assertEqual(cache.sync((0, 1)), (1,))
        self.assertEqual(cache.sync((0, 1)), ())

    def test_the_first_of_the_shortest(self):
        cache = filled_cache([(2, 0, 1, ()), (0, 0, 1, ()), (1, 0, 1, ())], (1, 1, 1))
        self.assertEqual(cache.copy().sync((0, 1, 2)), (0, 1, 2))
        self.assertEqual(cache.copy().sync((0, 2)), (1, 2))
        late = filled_cache([(1, 0, 1, ()), (0, 0, 1, ()), (0, 0, 2, (0,))], (1, 1))
        self.assertEqual(late.copy().sync((0, 1, 2)), (1, 0))
        self.assertEqual(late.copy().sync((0, 1)), (0, 1))

    def test_all_that_waits_takes_the_shortest_row_of_the_book(self):
        dice = Dice(82)
        for _ in range(40):
            cache = drawn_cache(dice, 10)
            book, lot = cache.book()
            row = shortest(book)
            self.assertEqual(cache.sync(lot), row)
            self.assertEqual(cache.waiting(), ())

    def test_against_all_rows_of_ripe_writes(self):
        dice = Dice(83)
        for _ in range(120):
            sizes = (2, 1, 2, 1)
            cache, plain = Cache(sizes), PlainCache(sizes)
            for number in range(1 + dice.below(9)):
                block = dice.below(4)
                given = (block, dice.below(sizes[block]), dice.below(9), drawn_lot(dice, range(number), 3))
                cache.change(*given)
                plain.change(*given)
                if dice.below(6) == 0:
                    block = dice.below(4)
                    cache.write(block)
                    plain.write(block)
            numbers = drawn_lot(dice, range(len(plain.changes)), 3)
            self.assertEqual(cache.sync(numbers), plain.sync(numbers))
            self.assertEqual(told(cache, sizes), told(plain, sizes))

    def test_no_numbers(self):
        cache = filled_cache([(0, 0, 1, ()), (1, 0, 1, ()), (1, 0, 2, ()), (0, 0, 3, ())], (1, 1))
        cache.drop(2)
        cache.write(0)
        before = told(cache, (1, 1))
        for thing in odd_things() + [(2,), (0, 2), (4,), (1, 0), (1, 1), [1], 1, (True,), (0, None), {1: 1}, range(2)]:
            with self.assertRaises(NoNumbers):
                cache.sync(thing)
        self.assertEqual(told(cache, (1, 1)), before)
        cache.cut()
        for thing in ((1,), (0, 1), (0, 1, 3), (2,)):
            with self.assertRaises(NoNumbers):
                cache.sync(thing)
        self.assertEqual(cache.sync((0, 3)), ())

    def test_too_many_behind_no_numbers(self):
        cache = woven((9, 9, 9, 9))
        cache.write(0)
        before = told(cache, (1,) * 8)
        for numbers in ((), (0,), (9,), (1,), tuple(range(36))):
            with self.assertRaises(TooMany) as caught:
                cache.sync(numbers)
            self.assertEqual(caught.exception.most, 2000)
        for numbers in (None, (36,), [0], (1, 0)):
            with self.assertRaises(NoNumbers):
                cache.sync(numbers)
        self.assertEqual(told(cache, (1,) * 8), before)

    def test_just_2000_standings_are_let(self):
        self.assertEqual(woven((4, 19, 19)).sync((3, 4)), (0, 1, 0, 1, 2))
        with self.assertRaises(TooMany):
            woven((4, 19, 20)).sync(())
        cache = woven((4, 19, 20))
        cache.write(4)
        self.assertEqual(cache.sync((0,)), (0,))


class FlushAndCut(unittest.TestCase):
    def test_flush_writes_the_least_ripe_block(self):
        cache = filled_cache([(1, 0, 1, ()), (0, 0, 1, (0,)), (1, 0, 2, (1,)), (2, 0, 1, ())], (1, 1, 1))
        self.assertEqual(cache.flush(), (1, 0, 1, 2))
        self.assertEqual((cache.waiting(), cache.writes(), cache.flush()), ((), 4, ()))
        self.assertEqual(cache.history(), [(1, (0,)), (0, (1,)), (1, (2,)), (2, (3,))])

    def test_flush_of_many_standings(self):
        cache = woven((25, 25, 25, 25))
        self.assertEqual(cache.flush(), (0, 1) * 12 + (0,) + (2, 3) * 12 + (2,) + (4, 5) * 12 + (4,) + (6, 7) * 12 + (6,))
        self.assertEqual(cache.waiting(), ())

    def test_cut(self):
        cache = filled_cache([(0, 0, 1, ()), (1, 0, 1, ()), (0, 0, 2, (1,))], (1, 1))
        cache.write(0)
        self.assertEqual(cache.cut(), (1, 2))
        self.assertEqual((cache.seen(0), cache.seen(1), cache.disk(0)), ((1,), (0,), (1,)))
        self.assertEqual((cache.waiting(), cache.ripe(), cache.cut()), ((), (), ()))
        self.assertEqual([cache.gone(number) for number in range(3)], [False, True, True])
        self.assertEqual(cache.change(0, 0, 9, ()), 3)
        self.assertEqual((cache.seen(0), cache.writes()), ((9,), 1))
        self.assertEqual(cache.cut(), (3,))
        self.assertEqual((cache.seen(0), cache.history()), ((1,), [(0, (0,))]))

    def test_no_change(self):
        cache = filled_cache([(0, 0, 1, ()), (1, 0, 1, ())], (1, 1))
        cache.cut()
        for thing in odd_things() + [2, 10 ** 58, (0,), "0"]:
            with self.assertRaises(NoChange):
                cache.gone(thing)
        self.assertEqual((cache.gone(0), cache.gone(1)), (True, True))


class Copy(unittest.TestCase):
    def test_it_goes_on_apart(self):
        dice = Dice(84)
        for _ in range(30):
            cache = drawn_cache(dice, 12)
            cache.write(dice.below(4))
            twin = cache.copy()
            before = told(cache, SIZES)
            self.assertEqual(told(twin, SIZES), before)
            for deed in (lambda: twin.change(0, 0, 3, ()), lambda: twin.write(1), twin.flush, twin.cut,
                         lambda: twin.change(1, 0, 3, ()), lambda: twin.drop(13), lambda: twin.sync(())):
                deed()
                self.assertEqual(told(cache, SIZES), before)
            after = told(twin, SIZES)
            cache.change(1, 0, 4, ())
            cache.flush()
            cache.cut()
            self.assertEqual(told(twin, SIZES), after)

    def test_both_go_on_as_one_that_was_not_copied(self):
        dice = Dice(90)
        for _ in range(30):
            seed = dice.below(1000)
            caches = [drawn_cache(Dice(seed), 8) for _ in range(2)]
            twins = [caches[0].copy(), caches[0].copy()]
            for at, cache in enumerate(caches[:1] + twins):
                for number in range(at):
                    cache.change(number, 0, 7, ())
            for cache in (caches[0], caches[1]):
                cache.change(2, 1, 5, (3,))
                cache.change(3, 0, 6, (8,))
                cache.write(3)
                cache.write(2)
            self.assertEqual(told(caches[0], SIZES), told(caches[1], SIZES))
            again = drawn_cache(Dice(seed), 8)
            again.change(0, 0, 7, ())
            self.assertEqual(told(twins[0], SIZES), told(again, SIZES))
            self.assertEqual((twins[0].flush(), twins[1].writes()), (again.flush(), 0))


SIZES = (2, 1, 3, 1)


def drawn_lot(dice, numbers, most):
    numbers = list(numbers)
    if not numbers:
        return ()
    return tuple(sorted({numbers[dice.below(len(numbers))] for _ in range(dice.below(most + 1))}))


def drawn_cache(dice, many):
    cache = Cache(SIZES)
    for number in range(many):
        block = dice.below(4)
        cache.change(block, dice.below(SIZES[block]), dice.below(99), drawn_lot(dice, range(number), 2))
    return cache


class Deeds(unittest.TestCase):
    """Long rows of deeds, drawn, on a cache and on the plain model."""

    def test_against_a_plain_model(self):
        for seed, many in ((85, 150), (86, 150), (87, 150), (88, 300)):
            dice = Dice(seed)
            cache, plain = Cache(SIZES), PlainCache(SIZES)
            for _ in range(many):
                self.deed(dice, cache, plain)
                self.assertEqual(told(cache, SIZES), told(plain, SIZES))
                self.check_disk(cache, plain)
            self.assertEqual([cache.gone(k) for k in range(len(plain.changes))],
                             [plain.gone(k) for k in range(len(plain.changes))])
            seen = [cache.seen(block) for block in range(4)]
            self.assertEqual(cache.flush(), plain.flush())
            self.assertEqual([cache.disk(block) for block in range(4)], seen)
            self.assertEqual(told(cache, SIZES), told(plain, SIZES))

    def deed(self, dice, cache, plain):
        kind = dice.below(40)
        if kind < 25:
            block = dice.below(4)
            elder = [k for k in range(len(plain.changes)) if not plain.gone(k)][-12:]
            given = (block, dice.below(SIZES[block]), dice.below(99) - 40, drawn_lot(dice, elder, 3))
            self.assertEqual(cache.change(*given), plain.change(*given))
        elif kind < 32:
            block = dice.below(4)
            self.assertEqual(cache.write(block), plain.write(block))
        elif kind < 36 and plain.waiting():
            number = plain.waiting()[dice.below(len(plain.waiting()))]
            needers = plain.needers(number)
            if needers:
                with self.assertRaises(Needed) as caught:
                    cache.drop(number)
                self.assertEqual(caught.exception.other, needers[0])
            else:
                cache.drop(number)
                plain.drop(number)
        elif kind < 38 and plain.changes and len(plain.waiting()) < 25:
            numbers = drawn_lot(dice, plain.waiting() + plain.lot("disk"), 3)
            self.assertEqual(cache.sync(numbers), plain.sync(numbers))
        elif kind == 38:
            self.assertEqual(cache.cut(), plain.cut())
        elif kind == 39 and dice.below(3) == 0:
            self.assertEqual(cache.flush(), plain.flush())

    def check_disk(self, cache, plain):
        """What is on the disk is closed, in each field the last change that is there; so a cut shows."""
        there = set(plain.lot("disk"))
        for number in there:
            self.assertLessEqual(plain.changes[number]["needs"], there)
        twin = cache.copy()
        twin.cut()
        for block in range(4):
            self.assertEqual(twin.seen(block), plain.worths(block, there))
            self.assertEqual(twin.disk(block), plain.worths(block, there))

    def test_rows_of_two_hundred_changes(self):
        dice = Dice(89)
        cache, plain = Cache(SIZES), PlainCache(SIZES)
        for number in range(200):
            block = dice.below(4)
            given = (block, dice.below(SIZES[block]), number, drawn_lot(dice, range(number), 4))
            self.assertEqual(cache.change(*given), plain.change(*given))
        self.assertEqual(told(cache, SIZES), told(plain, SIZES))
        for block in (0, 1, 2, 3, 3, 2, 1, 0):
            self.assertEqual(cache.write(block), plain.write(block))
        self.assertEqual(told(cache, SIZES), told(plain, SIZES))
        numbers = cache.waiting()[50:60]
        self.assertEqual(cache.copy().sync(numbers), plain.copy().sync(numbers))
        self.assertEqual(cache.flush(), plain.flush())
        self.assertEqual(told(cache, SIZES), told(plain, SIZES))

    def test_a_field_changed_three_hundred_times(self):
        cache = Cache((1, 1))
        for number in range(300):
            self.assertEqual(cache.change(0, 0, number, ()), number)
        book, lot = cache.book()
        self.assertEqual((len(book.blocks), len(book.needs), lot), (300, 299, tuple(range(300))))
        self.assertEqual((cache.last(0, 0), cache.seen(0), cache.picture(0)), (299, (299,), (299,)))
        cache.drop(299)
        self.assertEqual((cache.seen(0), cache.copy().sync((100,))), ((298,), (0,)))
        self.assertEqual(cache.write(0), tuple(range(299)))
        self.assertEqual(cache.disk(0), (298,))

    def test_two_fields_by_turns_three_hundred_times(self):
        cache = Cache((1, 1))
        for number in range(300):
            cache.change(number % 2, 0, number, (number - 1,) if number else ())
        self.assertEqual(cache.copy().sync((7,)), (0, 1) * 4)
        self.assertEqual(cache.copy().flush(), (0, 1) * 150)
        self.assertEqual(cache.sync((299,)), (0, 1) * 150)
        self.assertEqual((cache.disk(0), cache.disk(1)), ((298,), (299,)))


if __name__ == "__main__":
    unittest.main()
