"""0.3 and 0.4: nothing is changed, what is returned is new, equal calls give equal answers; the examples."""

import copy
import unittest

from ripewaves import books, days, even, lists, reading, rules, shell, sweeps, texts, toldback, trees, twoblocks, wishes
from ripewaves import standings as rows
from ripewaves.bench import Bench
from ripewaves.books import Book, bared, drawn_together, filled
from ripewaves.cache import Cache
from ripewaves.errors import Late, WaveError
from ripewaves.records import Records
from ripewaves.standings import led, many_rows, standings
from oracle import deep, odd_things, thrown_books

LATE = Book((0, 1, 1), ((1, 0),))
EVEN = Book((0, 0, 1, 1), ((1, 2), (3, 0)))
ONE, OTHER = (0, 1, 2, 5), (2, 1, 0, 1)
WAVED = Book((0, 0, 1), ((1, 2), (2, 0)))
NEEDS = tuple((a, b) for a in range(200) for b in range(a))[-4000:]
LINES = ["make 5", "make 6", "tie 0 1", "drop 1", "write 0", "flush", "list"]


def first_block(lots):
    return lots[-1][0]


def right_calls_of_wishes(book):
    """Wishes, rules and sweeps, each with right arguments for a book as of right_calls."""
    order = tuple(sorted(set(book.blocks)))
    return [
        (sweeps.swept, (book, order)), (sweeps.sweep_of, (book, order, 1)), (sweeps.steps_back, (book, order, (1,))),
        (sweeps.back_row, (book, order)), (sweeps.there_and_back, (book, order)),
        (sweeps.turns_of, (book, order, (0,))), (sweeps.best_order, (book,)), (sweeps.best_turning, (book,)),
        (wishes.fewest_for, (book, (), (1,))), (wishes.row_for, (book, (), (0, 1))),
        (wishes.comes_along, (book, (), (0,))), (wishes.may_come_along, (book, (), (0, 1))),
        (wishes.best_next, (book, ())), (wishes.wish_numbers, (book,)), (wishes.dearest, (book,)),
        (rules.row_by, (book, "most")), (rules.rule_numbers, (book,)), (rules.rule_shares, (book,)),
        (rules.row_of_writer, (first_block, book)), (rules.blind_days, ()), (rules.beaten, (first_block,)),
    ]


def right_calls_of_logs(book):
    """Logs, trees and tales, each with right arguments for a book as of right_calls."""
    blocks = book.blocks
    log = toldback.log_of(book, rules.row_by(book, "turn"))
    return [
        (toldback.is_log, (blocks, log)), (toldback.log_of, (book, rules.row_by(book, "few"))),
        (toldback.makes, (book, log)), (toldback.sure_needs, (blocks, log)), (toldback.never_needs, (blocks, log)),
        (toldback.open_needs, (blocks, log)), (toldback.fewest_needs, (blocks, log)),
        (toldback.freest_book, (blocks, log)), (toldback.fullest_book, (blocks, log)),
        (trees.is_tree, (book, 2, ("cases", {0: ("floor",), 1: ("cases", {})}))), (trees.floors, (book,)),
        (shell.tale, ((1, 1), LINES)), (shell.tale_text, (LINES,)), (shell.read_tale, (shell.tale_text(LINES),)),
    ]


def right_calls(book):
    """Functions, each with right arguments for a book that has the blocks 0 and 1 and two changes or more."""
    many = len(book.blocks)
    whole = tuple(range(many))
    return right_calls_of_wishes(book) + right_calls_of_logs(book) + [
        (books.beneath, (book, 1)), (books.above, (book, 0)), (books.filled, (book,)), (books.bared, (book,)),
        (books.day, (book, (0, 1))), (books.put_together, (book, 0, 1)), (books.parted, (book, 1)),
        (books.beside, (book, WAVED)), (books.beside, (WAVED, book)),
        (books.drawn_together, (book.blocks, book.needs)),
        (rows.is_standing, (book, whole)), (rows.comes, (book, (), 1)), (rows.ripe, (book, ())),
        (rows.led, (book, (), (0, 1, 0))), (rows.is_willing, (book, (), (0, 1, 0))),
        (rows.standings, (book,)), (rows.many_rows, (book,)),
        (even.fewest, (book,)), (even.most, (book,)), (even.shortest, (book,)), (even.longest, (book,)),
        (even.is_even, (book,)), (even.lefts, (book,)), (even.is_lefts, (book, {(): 1, (0,): 0})),
        (even.parting, (book,)), (even.is_parting, (book, ((), (0, 1), (1, 0, 1)))),
        (days.latecomer, (book,)), (days.latecomers, (book,)), (days.bad_days, (book,)), (days.is_even_daily, (book,)),
        (texts.book_text, (book,)), (reading.read_book, (texts.book_text(book),)), (twoblocks.pair_floor, (book,)),
        (lists.lists_book, (ONE, OTHER)), (lists.meetings, (ONE, OTHER)), (lists.fewest_lists, (ONE, OTHER)),
        (lists.most_lists, (ONE, OTHER)), (lists.least_row, (ONE, OTHER)), (lists.mirrors, (ONE, OTHER)),
        (lists.is_mirrors, (ONE, OTHER, (2,))), (lists.list_parting, (ONE, OTHER)), (lists.many_even, (ONE, 2, 3)),
    ]


def right_calls_of_two(book):
    """The same for a book of the blocks 0 and 1 alone."""
    return [
        (twoblocks.is_to_and_fro, (book, (0, 1))), (twoblocks.two_rows, (book,)), (twoblocks.long_row, (book,)),
        (twoblocks.fewest_two, (book,)), (twoblocks.by_turns, (book, 1)), (twoblocks.number_at, (book, 1, 0)),
        (twoblocks.row_to, (book, 1, 0)), (twoblocks.row_to, (book, 0, 0)),
    ]


def wrong_calls(book):
    """Functions, each with arguments for which it raises an error."""
    loop = ((0, 1), (1, 0))
    return [
        (Book, ([0], ())), (Book, ((0, 1), loop)), (books.beneath, (book, 99)), (books.above, (book, [0])),
        (books.day, (book, [0, 1])), (books.put_together, (book, 0, {0: 1})), (books.parted, (book, None)),
        (books.drawn_together, ((0, 1), loop)), (books.drawn_together, ((0, 1), [(0, 1)])),
        (rows.comes, (book, [], 0)), (rows.comes, (book, (), [0])), (rows.ripe, (book, {})),
        (rows.led, (book, (), [0, 1])), (rows.led, (book, (), (0, [1]))), (rows.is_willing, (book, [0], ())),
        (even.to_and_fro, (book, [0], 0, 1)), (even.to_and_fro, (book, (), [0], {0: 1})), (Cache, ([1, [2]],)),
        (days.waves, (book, [0])), (days.waves, (book, {0: 0})), (reading.read_book, (["blocks\n"],)),
        (twoblocks.by_turns, (book, [0])), (twoblocks.number_at, (book, 0, [0])), (twoblocks.row_to, (book, 0, {0: 0})),
        (lists.lists_book, ([0], [[1]])), (lists.meetings, ((), [1, [2]])), (lists.is_mirrors, ([0], (), ())),
        (lists.many_even, ([0], 1, 1)), (lists.many_even, ((), [1], [1])), (lists.many_even, ((), 1, {1: 1})),
        (sweeps.swept, (book, [0, 1])), (sweeps.sweep_of, (book, (0, 1), [0])), (sweeps.back_row, (book, {0: 1})),
        (sweeps.steps_back, (book, (0, 1), [0])), (sweeps.turns_of, (book, (0, 1), {0: [1]})),
        (sweeps.there_and_back, (book, ([0], [1]))), (wishes.fewest_for, (book, [], ())),
        (wishes.row_for, (book, (), [0])), (wishes.comes_along, (book, (), {0: 0})),
        (wishes.may_come_along, (book, [[]], [])), (wishes.best_next, (book, [0])), (rules.row_by, (book, ["least"])),
        (rules.row_of_writer, (lambda lots: lots, book)), (rules.beaten, (lambda lots: [0],)),
        (toldback.is_log, ([0], ())), (toldback.log_of, (book, [0, 1])), (toldback.makes, (book, [(0, [0])])),
        (toldback.sure_needs, ([0], [])), (toldback.never_needs, ((0,), [(0, (0,))])),
        (toldback.open_needs, ((0,), ((0, [0]),))), (toldback.fewest_needs, ((0,), ([0, (0,)],))),
        (toldback.freest_book, ({0: 0}, ())), (toldback.fullest_book, ((), [])), (toldback.other_rows, ((), {0: 0})),
        (trees.tree_for, (book, [1])), (trees.is_tree, (book, {1: 1}, ("floor",))), (Records, ([1, [2]],)),
        (shell.Shell, ([1],)), (shell.tale, ([1], LINES)), (shell.tale, ((1,), LINES + [LINES])),
        (shell.tale_text, ({0: "list"},)), (shell.read_tale, (LINES,)), (Bench().lie, ([0],)),
    ]


def sample():
    many = [book for book in thrown_books(31, 60, 7, 3) if {0, 1} <= set(book.blocks)]
    return many + [EVEN, WAVED, Book((0, 1) * 100, NEEDS)]


def outcome(function, *given):
    """What a function returns, or the class and the triple or number of what it raises."""
    try:
        return function(*given)
    except WaveError as error:
        return type(error), error.triple if isinstance(error, Late) else error.most


class Unchanged(unittest.TestCase):
    def test_right_calls_leave_their_arguments(self):
        for book in sample():
            two = right_calls_of_two(book) if set(book.blocks) == {0, 1} else []
            for function, given in right_calls(book) + two:
                before = copy.deepcopy(given)
                inside = [copy.deepcopy(vars(thing)) for thing in given if isinstance(thing, Book)]
                function(*given)
                self.assertEqual(given, before)
                self.assertEqual([vars(thing) for thing in given if isinstance(thing, Book)], inside)

    def test_wrong_calls_leave_their_arguments(self):
        for book in (EVEN, WAVED):
            for function, given in wrong_calls(book):
                before = copy.deepcopy(given)
                with self.assertRaises(WaveError):
                    function(*given)
                self.assertEqual(given, before)

    def test_odd_things_are_left(self):
        for at, thing in enumerate(odd_things()):
            if isinstance(thing, (list, dict)):
                before = copy.deepcopy(thing)
                rows.is_standing(EVEN, thing)
                rows.is_willing(EVEN, (), thing)
                even.is_lefts(EVEN, thing)
                even.is_lefts(EVEN, {(): thing})
                even.is_parting(EVEN, thing)
                even.is_parting(EVEN, ((), thing, thing))
                toldback.is_log(EVEN.blocks, thing)
                toldback.is_log(EVEN.blocks, ((0, thing),))
                trees.is_tree(EVEN, 0, thing)
                trees.is_tree(EVEN, 0, ("cases", thing))
                trees.is_tree(EVEN, 0, ("cases", {0: thing, 1: thing}))
                twoblocks.is_to_and_fro(EVEN, thing)
                twoblocks.is_to_and_fro(EVEN, (0, thing))
                lists.is_mirrors(ONE, OTHER, thing)
                lists.is_mirrors(ONE, OTHER, (thing,))
                for function, given in ((books.day, (EVEN, thing)), (rows.led, (EVEN, (), thing))):
                    with self.subTest(at), self.assertRaises(WaveError):
                        function(*given)
                self.assertTrue(thing == before)

    def test_calls_that_are_right_for_some_books_alone(self):
        for book in sample():
            for function in (days.many_writes, days.fewest_parted, days.greatest_share):
                before = copy.deepcopy(vars(book))
                self.assertEqual(outcome(function, book), outcome(function, book))
                self.assertEqual(vars(book), before)
            for block in set(book.blocks):
                self.assertEqual(outcome(days.waves, book, block), outcome(days.waves, book, block))
            if rows.ripe(book, ()) == (0, 1):
                pair = even.to_and_fro(book, (), 0, 1)
                self.assertEqual(pair, even.to_and_fro(Book(book.blocks, book.needs), (), 0, 1))
                self.assertEqual(type(pair), tuple)

    def test_equal_calls_give_equal_answers(self):
        for book in sample():
            again = Book(book.blocks, book.needs)
            for (function, given), (_, other) in zip(right_calls(book), right_calls(again)):
                first = function(*given)
                self.assertEqual(first, function(*given))
                self.assertEqual(first, function(*other))
            if set(book.blocks) == {0, 1}:
                for (function, given), (_, other) in zip(right_calls_of_two(book), right_calls_of_two(again)):
                    self.assertEqual(function(*given), function(*other))


class New(unittest.TestCase):
    def test_lists_that_are_returned_are_new(self):
        for function, given in (
            (standings, (EVEN,)), (led, (EVEN, (), (0, 1))), (days.latecomers, (EVEN,)), (days.bad_days, (EVEN,)),
            (days.waves, (WAVED, 0)), (lists.meetings, (ONE, OTHER)), (twoblocks.by_turns, (WAVED, 1)),
            (sweeps.swept, (WAVED, (0, 1))), (sweeps.there_and_back, (EVEN, (1, 0))),
            (toldback.sure_needs, ((0, 1, 0, 1), tuple((k % 2, (k,)) for k in range(4)))),
            (toldback.never_needs, ((0, 1), ((0, (0,)), (1, (1,))))),
            (toldback.open_needs, ((0, 1), ((0, (0,)), (1, (1,))))), (shell.tale, ((1, 1), LINES)),
            (shell.read_tale, ("list\ncut\n",)),
        ):
            first = function(*given)
            kept = list(first)
            first.append(None)
            first[0] = None
            second = function(*given)
            self.assertEqual(second, kept)
            self.assertIsNot(first, second)

    def test_dicts_that_are_returned_are_new(self):
        for function, given in (
            (even.lefts, (EVEN,)), (rules.rule_numbers, (EVEN,)), (rules.rule_shares, (EVEN,)), (trees.floors, (EVEN,)),
        ):
            first = function(*given)
            kept = dict(first)
            for key in kept:
                first[key] = None
            first["more"] = None
            self.assertEqual(function(*given), kept)

    def test_kinds_of_results(self):
        for book in sample():
            for function, given in right_calls(book):
                self.check_kind(function(*given), KINDS[function.__name__])
            if set(book.blocks) == {0, 1}:
                for function, given in right_calls_of_two(book):
                    self.check_kind(function(*given), KINDS[function.__name__])
        for lot in standings(EVEN) + led(EVEN, (), (0, 1)):
            self.assertIs(type(lot), tuple)

        for lot in days.waves(WAVED, 0) + days.bad_days(EVEN) + days.latecomers(EVEN) + list(even.lefts(EVEN)):
            self.assertIs(type(lot), tuple)
        for part in even.parting(books.beside(WAVED, Book((0, 1, 1), ((1, 0),)))):
            self.assertIs(type(part), tuple)
        self.assertEqual([type(days.many_writes(WAVED)), type(days.waves(WAVED, 0))], [int, list])
        for call in (days.fewest_parted, days.greatest_share):
            self.assertIs(type(call(EVEN)), tuple)

    def check_kind(self, result, kinds):
        """A kind, or a pair of a kind and None."""
        if isinstance(kinds, tuple) and result is None:
            return
        self.assertIs(type(result), kinds[0] if isinstance(kinds, tuple) else kinds)

    def test_copies_of_books_are_equal(self):
        for book in sample():
            self.assertEqual(copy.copy(book), book)
            self.assertEqual(copy.deepcopy(book), book)


KINDS = {
    "beneath": tuple, "above": tuple, "filled": Book, "bared": Book, "day": Book, "put_together": Book,
    "parted": Book, "beside": Book, "drawn_together": tuple, "is_standing": bool, "comes": tuple, "ripe": tuple,
    "led": list, "is_willing": bool, "standings": list, "many_rows": int,
    "fewest": int, "most": int, "shortest": tuple, "longest": tuple, "is_even": bool, "lefts": (dict, None),
    "is_lefts": bool, "parting": (tuple, None), "is_parting": bool, "latecomer": (tuple, None), "latecomers": list,
    "bad_days": list, "is_even_daily": bool, "book_text": str, "read_book": Book, "pair_floor": int,
    "lists_book": Book, "meetings": list, "fewest_lists": int, "most_lists": int, "least_row": tuple,
    "mirrors": (tuple, None), "is_mirrors": bool, "list_parting": (tuple, None), "many_even": int,
    "is_to_and_fro": bool, "two_rows": tuple, "long_row": tuple, "fewest_two": int, "by_turns": list,
    "number_at": int, "row_to": (tuple, None),
    "swept": list, "sweep_of": int, "steps_back": int, "back_row": (tuple, None), "there_and_back": list,
    "turns_of": int, "best_order": tuple, "best_turning": tuple, "fewest_for": int, "row_for": tuple,
    "comes_along": tuple, "may_come_along": tuple, "best_next": tuple, "wish_numbers": tuple, "dearest": tuple,
    "row_by": tuple, "rule_numbers": dict, "rule_shares": dict, "row_of_writer": tuple, "blind_days": tuple,
    "beaten": tuple, "is_log": bool, "log_of": tuple, "makes": bool, "sure_needs": list, "never_needs": list,
    "open_needs": list, "fewest_needs": int, "freest_book": Book, "fullest_book": Book, "is_tree": bool, "floors": dict,
    "tale": list, "tale_text": str, "read_tale": list,
}


class DeepThings(unittest.TestCase):
    def test_things_nested_forty_deep_raise_the_named_errors_alone(self):
        for many in range(1, 41):
            for make in (lambda inner: (inner,), lambda inner: [inner], lambda inner: {0: inner}):
                self.judged(deep(make, many))

    def test_wide_things(self):
        for thing in (tuple([None] * 20000), [0] * 20000, tuple(range(20000)), tuple([()] * 20000), (0,) * 20000):
            self.judged(thing)

    def judged(self, thing):
        self.assertIs(rows.is_standing(EVEN, thing), False)
        self.assertIs(rows.is_willing(EVEN, (), thing), False)
        for given in (thing, {(): thing}, ((), thing, thing), (thing, (), ()), [thing], (thing,)):
            self.assertIs(even.is_lefts(EVEN, given), False)
            self.assertIs(even.is_parting(LATE, given), False)
            self.assertIs(twoblocks.is_to_and_fro(LATE, given), False)
            self.assertIs(lists.is_mirrors(ONE, OTHER, given), False)
            self.assertIs(toldback.is_log(LATE.blocks, given), False)
            self.assertIs(toldback.is_log(LATE.blocks, ((1, given), (0, (0,)))), False)
            self.assertIs(trees.is_tree(LATE, 0, given), False)
            self.assertIs(trees.is_tree(LATE, 0, ("cases", {0: ("floor",), 1: given})), False)
        self.judged_by_later_parts(thing)
        cache = Cache((1, 1))
        calls = [
            (Book, (thing, ())), (Book, ((0, 0), (thing,))), (drawn_together, (thing, ())),
            (drawn_together, ((0, 0), (thing,))), (books.beneath, (EVEN, thing)), (books.above, (EVEN, thing)),
            (books.day, (EVEN, thing)), (books.parted, (EVEN, thing)), (books.put_together, (EVEN, thing, thing)),
            (rows.ripe, (EVEN, thing)), (rows.comes, (EVEN, thing, 0)), (rows.comes, (EVEN, (), thing)),
            (rows.led, (EVEN, thing, ())), (rows.led, (EVEN, (), (thing,))), (rows.is_willing, (EVEN, thing, ())),
            (even.to_and_fro, (EVEN, thing, 0, 1)), (even.to_and_fro, (EVEN, (), thing, 0)),
            (even.to_and_fro, (EVEN, (), 0, thing)), (days.waves, (EVEN, thing)), (Cache, (thing,)),
            (cache.change, (thing, 0, 0, ())), (cache.change, (0, thing, 0, ())), (cache.change, (0, 0, thing, ())),
            (cache.change, (0, 0, 0, thing)), (cache.last, (thing, 0)), (cache.last, (0, thing)),
            (cache.write, (thing,)), (cache.seen, (thing,)), (cache.picture, (thing,)), (cache.disk, (thing,)),
            (cache.drop, (thing,)), (cache.sync, (thing,)), (cache.gone, (thing,)),
            (reading.read_book, (thing,)), (twoblocks.by_turns, (EVEN, thing)), (twoblocks.number_at, (EVEN, thing, 0)),
            (twoblocks.number_at, (EVEN, 0, thing)), (twoblocks.row_to, (EVEN, thing, 0)),
            (twoblocks.row_to, (EVEN, 0, thing)), (lists.lists_book, (thing, ())), (lists.meetings, ((), thing)),
            (lists.fewest_lists, ((thing,), ())), (lists.most_lists, ((), (thing,))), (lists.least_row, (thing, ())),
            (lists.mirrors, (thing, thing)), (lists.is_mirrors, ((0, thing), (), ())), (lists.list_parting, (thing, 0)),
            (lists.many_even, (thing, 0, 0)), (lists.many_even, ((), thing, 0)), (lists.many_even, ((), 0, thing)),
        ]
        for function, given in calls:
            with self.assertRaises(WaveError):
                function(*given)

    def judged_by_later_parts(self, thing):
        store, bench, small = Records((1, 1)), Bench(), (0, 1)
        store.make(5)
        bench.lie(0)
        calls = [
            (sweeps.swept, (EVEN, thing)), (sweeps.sweep_of, (EVEN, thing, 0)), (sweeps.sweep_of, (EVEN, small, thing)),
            (sweeps.steps_back, (EVEN, small, thing)), (sweeps.steps_back, (EVEN, small, (0, thing))),
            (sweeps.back_row, (EVEN, (0, thing))), (sweeps.there_and_back, (EVEN, thing)),
            (sweeps.turns_of, (EVEN, small, (thing,))), (wishes.fewest_for, (EVEN, thing, ())),
            (wishes.row_for, (EVEN, (), (0, thing))), (wishes.comes_along, (EVEN, (thing,), ())),
            (wishes.may_come_along, (EVEN, (), (thing,))), (wishes.best_next, (EVEN, thing)),
            (rules.row_by, (EVEN, thing)), (rules.row_of_writer, (lambda lots: thing, EVEN)),
            (rules.beaten, (lambda lots: thing,)), (toldback.log_of, (EVEN, thing)), (toldback.makes, (EVEN, thing)),
            (toldback.is_log, ((thing,), ())), (toldback.sure_needs, (thing, thing)),
            (toldback.never_needs, (small, thing)), (toldback.open_needs, (small, ((0, thing),))),
            (toldback.fewest_needs, (small, (thing,))), (toldback.freest_book, (small, ((thing, (0,)), (1, (1,))))),
            (toldback.fullest_book, (small, thing)), (toldback.other_rows, (small, thing)),
            (trees.tree_for, (EVEN, thing)), (trees.is_tree, (EVEN, thing, thing)), (Records, (thing,)),
            (shell.Shell, (thing,)), (store.make, (thing,)), (store.put, (0, thing)), (store.put, (thing, 5)),
            (store.tie, (thing, 0)), (store.tie, (0, thing)), (store.untie, (thing,)), (store.drop, (thing,)),
            (store.ties_to, (thing,)), (store.write, (thing,)), (store.settle, (thing,)),
            (shell.Shell((1,)).tell, (thing,)), (shell.tale, (thing, [])), (shell.tale, ((1,), [thing])),
            (shell.tale_text, ((thing,),)), (shell.read_tale, (thing,)), (bench.lie, (thing,)),
            (bench.shift, (thing, 0)), (bench.shift, (0, thing)), (bench.need, (thing, 0)), (bench.need, (0, thing)),
            (bench.unneed, (thing, 0)), (bench.unneed, (0, thing)),
        ]
        for function, given in calls:
            with self.assertRaises(WaveError):
                function(*given)

    def test_long_rows_of_needs_raise_no_recursion_error(self):
        chain = Book((0, 1) * 100, tuple((k, k - 1) for k in range(1, 200)))
        great = chain
        for _ in range(4):
            great = books.beside(great, great)
        self.assertEqual(len(great.blocks), 3200)
        self.assertEqual(books.beneath(great, 3199), tuple(range(3000, 3199)))
        self.assertEqual(bared(great), great)
        self.assertEqual(len(standings(books.day(great, tuple(range(200))))), 201)
        self.assertEqual(led(great, (), (1, 0, 1)), [(), (), (0,), (0, 1)])
        self.assertEqual(even.to_and_fro(great, (), 0, 2), (1, 1))
        self.assertEqual(even.to_and_fro(great, (), 30, 2), (1, 1))
        self.assertEqual((even.fewest(chain), len(even.shortest(chain)), even.lefts(chain)[()]), (200, 200, 200))
        self.assertIsNone(days.latecomer(great))
        self.assertEqual((days.latecomers(great), days.bad_days(great), days.many_writes(great)), ([], [], 3200))
        self.assertEqual(len(days.waves(great, 31)), 100)
        self.assertEqual(len(texts.book_text(great).split("\n")), 3200 - 16 + 2)
        long = chain
        for _ in range(3):
            long = books.put_together(books.put_together(books.beside(long, chain), 0, 2), 1, 3)
        self.assertEqual((len(long.blocks), twoblocks.two_rows(long), twoblocks.pair_floor(long)), (800, (200, 199), 200))
        self.assertEqual(len(twoblocks.by_turns(long, 1)), 201)
        self.assertEqual(reading.read_book(texts.book_text(chain)), chain)


class Examples(unittest.TestCase):
    def test_e01(self):
        got = (even.fewest(LATE), even.most(LATE), even.shortest(LATE), even.longest(LATE), even.is_even(LATE))
        self.assertEqual(got, (2, 3, (0, 1), (1, 0, 1), False))

    def test_e02(self):
        got = (days.latecomer(LATE), days.bad_days(LATE), even.to_and_fro(LATE, (), 0, 1),
               even.is_parting(LATE, ((), (0, 1), (1, 0, 1))))
        self.assertEqual(got, ((1, 0, 2), [(0, 1, 2)], (2, 1), True))

    def test_e03(self):
        got = (standings(EVEN), many_rows(EVEN), even.is_even(EVEN), even.lefts(EVEN)[()],
               even.to_and_fro(EVEN, (), 0, 1))
        self.assertEqual(got, ([(), (0,), (2,), (0, 1, 2), (0, 2, 3), (0, 1, 2, 3)], 2, True, 3, (2, 2)))

    def test_e04(self):
        got = (days.latecomer(WAVED), days.waves(WAVED, 0), days.many_writes(WAVED), bared(filled(WAVED)) == WAVED)
        self.assertEqual(got, (None, [(0,), (1,)], 3, True))

    def test_e05(self):
        got = (twoblocks.fewest_two(EVEN), twoblocks.two_rows(LATE), lists.fewest_lists((0, 1, 2), (2, 1, 0)),
               lists.mirrors((0, 1, 2), (2, 1, 0)))
        self.assertEqual(got, (3, (2, 1), 5, (2,)))

    def test_e06(self):
        back = Book((2, 0, 1), ((1, 0), (2, 1)))
        got = (sweeps.swept(back, (0, 1, 2)), sweeps.steps_back(back, (0, 1, 2), (0, 1, 2)))
        self.assertEqual(got, ([(0,), (1, 2)], 1))

    def test_e07(self):
        cache = Cache((1, 1))
        made = (cache.change(0, 0, 5, ()), cache.change(1, 0, 7, (0,)), cache.change(0, 0, 6, (1,)))
        self.assertEqual(made, (0, 1, 2))
        got = (cache.picture(0), cache.seen(0), cache.sync((2,)), cache.writes(), cache.disk(0))
        self.assertEqual(got, ((5,), (6,), (0, 1, 0), 3, (6,)))

    def test_e09(self):
        self.assertEqual(texts.book_text(LATE), "blocks 0 1 1\n1 : 0\n")
        self.assertEqual(reading.read_book("blocks 0 1 1\n1 : 0\n"), LATE)

    def test_e08(self):
        got = drawn_together((0, 0, 1), ((0, 1), (1, 0), (2, 1)))
        self.assertTrue(got == (Book((0, 1), ((1, 0),)), ((0, 1), (2,))))

    def test_the_books_that_the_examples_begin_with(self):
        for blocks, needs in (
            ((0, 1, 1), ((1, 0),)), ((0, 0, 1, 1), ((1, 2), (3, 0))),
            ((0, 0, 1), ((1, 2), (2, 0))), ((2, 0, 1), ((1, 0), (2, 1))),
        ):
            book = Book(blocks, needs)
            self.assertEqual((book.blocks, book.needs), (blocks, needs))


if __name__ == "__main__":
    unittest.main()
