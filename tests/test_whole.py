"""The whole program: a book told by several modules at once is told the same by each."""

import copy
import unittest
from itertools import permutations

from ripewaves.bench import Bench
from ripewaves.books import Book, above, beneath, beside, day, filled, made_book, put_together
from ripewaves.cache import Cache
from ripewaves.days import bad_days, greatest_share, is_even_daily, latecomer, many_writes, waves
from ripewaves.even import fewest, is_even, is_lefts, is_parting, lefts, longest, most, parting, shortest
from ripewaves.lists import fewest_lists, least_row, lists_book, most_lists
from ripewaves.reading import read_book
from ripewaves.records import Records
from ripewaves.rules import beaten, row_by, row_of_writer, rule_numbers, rule_shares
from ripewaves.shell import Shell, tale
from ripewaves.standings import comes, is_willing, led, many_rows, ripe, standings
from ripewaves.sweeps import best_order, best_turning, swept, there_and_back
from ripewaves.texts import book_text
from ripewaves.toldback import (
    fewest_needs, freest_book, fullest_book, is_log, log_of, makes, never_needs, open_needs, other_rows, sure_needs,
)
from ripewaves.trees import floors, is_tree, tree_for
from ripewaves.twoblocks import fewest_two, pair_floor
from ripewaves.wishes import best_next, comes_along, fewest_for, row_for, wish_numbers
from oracle import CHAIN, Dice, arm, odd_things, thrown_books
from test_bench import bench_of
from test_store_deeds import drawn_deed


def sample():
    return thrown_books(2001, 60, 8, 3) + thrown_books(2002, 40, 8, 5) + thrown_books(2003, 20, 12, 4)


def cache_of(book):
    """A cache in which changes wait as in the book, and for each change of the book its number."""
    cache = Cache((20,) * 8)
    number = {}
    while len(number) < len(book.blocks):
        for change, block in enumerate(book.blocks):
            if change not in number and set(beneath(book, change)) <= set(number):
                needs = sorted(number[other] for one, other in book.needs if one == change)
                number[change] = cache.change(block, change, 1, tuple(needs))
    return cache, number


class ToldAlike(unittest.TestCase):
    def test_the_least_number(self):
        for book in sample():
            whole = tuple(range(len(book.blocks)))
            least = fewest(book)
            log = log_of(book, shortest(book))
            told = [
                len(shortest(book)), fewest_for(book, (), whole), len(row_for(book, (), whole)), bench_of(book).fewest(),
                fewest(read_book(book_text(book))), fewest(filled(book)), len(log), fewest(cache_of(book)[0].book()[0]),
                len(cache_of(book)[0].sync(whole)),
            ]
            self.assertEqual(told, [least] * len(told))
            self.assertEqual(row_for(book, (), whole), shortest(book))
            self.assertEqual(comes_along(book, (), whole), whole)
            self.assertEqual(best_next(book, ())[:1], shortest(book)[:1])
            self.assertLessEqual(pair_floor(book), least)
            self.assertLessEqual(max(wish_numbers(book), default=0), least)
            if len(set(book.blocks)) == 2:
                self.assertEqual(fewest_two(book), least)
            if len(book.blocks) <= 8:
                self.assertIs(is_tree(book, least, tree_for(book, least)), True)
                self.assertIsNone(tree_for(book, least + 1))
            if is_even_daily(book):
                self.assertEqual((many_writes(book), most(book)), (least, least))

    def test_even_books(self):
        for book in sample():
            even = is_even(book)
            self.assertIs(bench_of(book).even(), even)
            self.assertIs(fewest(book) == most(book), even)
            self.assertIs(lefts(book) is not None, even)
            self.assertIs(parting(book) is None, even)
            if even:
                self.assertIs(is_lefts(book, lefts(book)), True)
                self.assertEqual(set(rule_numbers(book).values()), {fewest(book)})
                self.assertEqual(lefts(book), {lot: fewest_for(book, lot, tuple(range(len(book.blocks))))
                                               for lot in standings(book)})
            else:
                self.assertIs(is_parting(book, parting(book)), True)
                self.assertIsNotNone(latecomer(book))
            self.assertEqual(bench_of(book).late(), latecomer(book))

    def test_rules_writers_and_sweeps_make_willing_rows(self):
        for book in sample():
            for rule, number in rule_numbers(book).items():
                row = row_by(book, rule)
                self.assertIs(is_willing(book, (), row), True)
                self.assertEqual(len(row), number)
                self.assertLessEqual(fewest(book), number)
                self.assertLessEqual(number, most(book))
                if len(book.blocks) <= 7:
                    (top, bottom), (high, low) = rule_shares(book)[rule], greatest_share(book)
                    self.assertLessEqual(top * low, high * bottom)
            self.assertEqual(row_of_writer(lambda lots: lots[-1][0], book), row_by(book, "least"))
            self.assertEqual(row_of_writer(lambda lots: lots[-1][-1], book), row_by(book, "greatest"))
            self.assertEqual(cache_of(book)[0].flush(), row_by(book, "least"))
            for order, arm in ((best_order(book), swept), (best_turning(book), there_and_back)):
                lots = arm(book, order)
                self.assertEqual(sorted(change for lot in lots for change in lot), list(range(len(book.blocks))))
                # an arm that writes in vain, too, needs no fewer writes
                self.assertLessEqual(fewest(book), len(lots) * len(order))

    def test_logs(self):
        for book in sample():
            for row in (shortest(book), longest(book), row_by(book, "elder")):
                log = log_of(book, row)
                lots = [comes(book, lot, block) for lot, block in zip(led(book, (), row), row)]
                self.assertEqual(log, tuple(zip(row, lots)))
                self.assertEqual((is_log(book.blocks, log), makes(book, log), makes(filled(book), log)), (True,) * 3)
                free, full = freest_book(book.blocks, log), fullest_book(book.blocks, log)
                self.assertEqual((log_of(free, row), log_of(full, row)), (log, log))
                self.assertEqual((len(free.needs), other_rows(book.blocks, log)),
                                 (fewest_needs(book.blocks, log), many_rows(free)))
                for change, other in sure_needs(book.blocks, log):
                    self.assertIn(other, beneath(book, change))
                    self.assertIn(change, above(free, other))
                for change, other in never_needs(book.blocks, log):
                    self.assertNotIn(other, beneath(full, change))
                    self.assertNotIn(other, beneath(book, change))
                both = set(sure_needs(book.blocks, log)) | set(open_needs(book.blocks, log))
                self.assertLessEqual({(change, other) for change in range(len(book.blocks))
                                      for other in beneath(book, change)}, both)

    def test_days_and_floors(self):
        for book in sample():
            many = range(len(book.blocks))
            for lot, number in floors(book).items():
                left = day(book, tuple(change for change in many if change not in lot))
                self.assertEqual(number, pair_floor(left))
                self.assertEqual(fewest(left), fewest_for(book, lot, tuple(many)))
            for three in bad_days(book):
                self.assertEqual((fewest(day(book, three)), most(day(book, three))), (2, 3))
                self.assertIs(bench_of(day(book, three)).even(), False)
                self.assertIn(beaten(lambda lots: lots[-1][0])[0], (0, 1))

    def test_lists(self):
        dice = Dice(2004)
        for _ in range(40):
            one, other = [], []
            for row in (one, other):
                for _ in range(dice.below(6)):
                    row.extend([item for item in [dice.below(4)] if row[-1:] != [item]])
            one, other = tuple(one), tuple(other)
            book = lists_book(one, other)
            self.assertEqual((fewest_lists(one, other), most_lists(one, other)), (fewest(book), most(book)))
            self.assertEqual(least_row(one, other), shortest(book))
            self.assertEqual(bench_of(book).fewest(), fewest_lists(one, other))

    def test_a_store_its_cache_and_a_shell(self):
        for seed in range(12):
            slots = [(1, 1), (2, 1), (1, 1, 1), (2, 2)][seed % 4]
            dice = Dice(2010 + seed)
            store, shell = Records(slots), Shell(slots)
            for _ in range(40):
                name, given = drawn_deed(dice, slots)
                if name == "ties_to":
                    continue
                line = " ".join([name] + [str(number) for number in given])
                answers = []
                for call, arguments in ((getattr(store, name), given), (shell.tell, (line,))):
                    try:
                        call(*arguments)
                        answers.append(None)
                    except ValueError as error:
                        answers.append(type(error))
                self.assertEqual(answers[0], answers[1])
                book = store.cache().book()[0]
                self.assertEqual(shell.tell("fewest"), str(fewest(book)))
                self.assertEqual(shell.tell("even"), "yes" if bench_of(book).even() else "no")
                self.assertEqual(shell.tell("ripe"), " ".join(map(str, ripe(book, ()))) or "none")
                self.assertEqual(shell.tell("waits"), str(len(book.blocks)))
                self.assertEqual(shell.tell("list"), " ".join(map(str, sorted(store.records()))) or "none")


class Great(unittest.TestCase):
    def test_books_greater_than_the_bounds_go_through_all(self):
        great = made_book(tuple(block + 60 for block in CHAIN.blocks), CHAIN.needs)
        great = put_together(beside(great, Book((0,), ())), 60, 63)
        self.assertEqual((len(great.blocks), max(great.blocks)), (201, 62))
        order = best_order(great)
        row = row_by(great, "turn")
        log = log_of(great, row)
        self.assertEqual((order, len(swept(great, order)), len(row), makes(great, log)), ((60, 61, 62), 67, 200, True))
        turning = best_turning(great)
        self.assertEqual(there_and_back(great, turning), arm(great, turning, True))
        self.assertEqual(len(there_and_back(great, turning)),
                         min(len(arm(great, other, True)) for other in permutations(order)))
        self.assertEqual(fewest(great), 200)
        self.assertEqual((wish_numbers(great)[199], len(floors(great)), rule_shares(great)["few"]), (200, 201, (1, 1)))
        self.assertIs(is_tree(great, pair_floor(great), ("floor",)), True)
        # change 3 lies in the block of 200, and needs 1 of another one, of which 200 knows nothing
        self.assertIn((1, 3, 200), bad_days(great))
        self.assertEqual(sum(len(waves(CHAIN, block)) for block in range(3)), many_writes(CHAIN))

    def test_a_bench_without_bound(self):
        bench = Bench()
        for number in range(100):
            bench.lie(number % 3)
        for change in range(100):
            for other in range(change):
                bench.need(change, other)
        book = bench.book()
        self.assertGreater(len(book.needs), 4000)
        row = row_by(book, "least")
        self.assertIs(makes(book, log_of(book, row)), True)
        self.assertEqual((fewest(book), len(swept(book, (2, 1, 0)))), (100, len(swept(book, (2, 1, 0)))))
        self.assertEqual(fewest_for(book, (), (99,)), bench.fewest())


class Apart(unittest.TestCase):
    def test_objects_are_equal_to_nothing_of_another_kind(self):
        things = [Book((), ()), Cache((1,)), Records((1,)), Shell((1,)), Bench()]
        for at, one in enumerate(things):
            for to, other in enumerate(things):
                if at != to:
                    self.assertFalse(one == other)
            for other in odd_things():
                if type(other) is not type(one):
                    self.assertFalse(one == other)
                    self.assertFalse(other == one)

    def test_what_is_changed_in_an_answer_is_not_in_the_next(self):
        store, cache, bench = Records((1, 1)), Cache((1, 1)), Bench()
        store.make(5)
        store.flush()
        cache.change(0, 0, 5, ())
        cache.write(0)
        bench.lie(0)
        calls = [store.records, store.on_disk, store.cache().history, cache.history]
        for call in calls:
            kept = copy.deepcopy(call())
            call().clear()
            self.assertEqual(call(), kept)
            self.assertTrue(kept)
        book = bench.book()
        bench.shift(0, 1)
        self.assertEqual(book, Book((0,), ()))

    def test_answers_of_tales_and_writers_are_apart(self):
        lines = ["make 5", "list"]
        first = tale((1,), lines)
        first[0] = "x"
        lines.append("cut")
        self.assertEqual(tale((1,), lines), ["0", "0", "1"])


if __name__ == "__main__":
    unittest.main()
