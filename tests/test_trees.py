"""5.4: trees that show that no willing row is shorter, and the floors of all standings."""

import copy
import unittest

from ripewaves.books import Book, beside, day
from ripewaves.errors import NoNumber, TooMany
from ripewaves.even import fewest
from ripewaves.trees import floors, is_tree, tree_for
from ripewaves.twoblocks import pair_floor
from oracle import (
    CHAIN, WIDE, behind, closed_lots, deep, odd_things, reached, ripe_blocks, small_books, thrown_books,
)

EMPTY = Book((), ())
LATE = Book((0, 1, 1), ((1, 0),))
FLOOR = ("floor",)
NO_NUMBERS = [thing for thing in odd_things() if thing != 10 ** 59] + ["1", [1], (1,), {1: 1}]
# a chain of needs through three blocks: no two of them tell all of its writes
ROUND = Book((0, 1, 2, 0, 1, 2), ((1, 0), (2, 1), (3, 2), (4, 3), (5, 4)))
# their trees must go on by more writes than one
FURTHER = [
    Book((2, 5, 1, 1, 3, 4, 1, 2), (
        (3, 0), (3, 1), (3, 2), (3, 4), (3, 5), (4, 1), (4, 6), (5, 0), (5, 1), (5, 2), (6, 1), (7, 0), (7, 3),
        (7, 4), (7, 5))),
    Book((4, 4, 4, 3, 2, 0, 5, 2), (
        (0, 4), (1, 2), (1, 3), (1, 4), (1, 5), (1, 7), (2, 3), (2, 4), (2, 6), (3, 0), (5, 2), (5, 4), (5, 6),
        (5, 7), (7, 2), (7, 4))),
    Book((4, 0, 3, 3, 1, 5, 4, 5), (
        (0, 1), (0, 4), (0, 7), (3, 1), (3, 2), (3, 4), (3, 7), (4, 1), (5, 0), (7, 1), (7, 2), (7, 4), (7, 6))),
]


def sample():
    drawn = thrown_books(54, 60, 6, 3) + thrown_books(55, 30, 8, 4)
    return small_books()[::4] + drawn + [EMPTY, LATE, ROUND] + FURTHER


def left_at(book, standing):
    return tuple(change for change in range(len(book.blocks)) if change not in standing)


def floor_at(book, standing):
    return pair_floor(day(book, left_at(book, standing)))


def shows(book, number, standing, tree):
    """Whether something shows a number at a standing, by a plain look at each leaf and branch."""
    if type(tree) is not tuple or not tree:
        return False
    if len(tree) == 1 and type(tree[0]) is str and tree[0] == "floor":
        return floor_at(book, standing) >= number
    if len(tree) != 2 or type(tree[0]) is not str or tree[0] != "cases" or type(tree[1]) is not dict:
        return False
    blocks = ripe_blocks(book, standing)
    if not blocks or set(tree[1]) != set(blocks):
        return False
    return all(shows(book, number - 1, behind(book, standing, block), tree[1][block]) for block in blocks)


def full_tree(book, standing, deepest):
    """A tree that goes on so many writes, whatever the floors are."""
    blocks = ripe_blocks(book, standing)
    if deepest == 0 or not blocks:
        return FLOOR
    return ("cases", {block: full_tree(book, behind(book, standing, block), deepest - 1) for block in blocks})


def otherwise(tree):
    """Things that are the tree but for one thing."""
    things = [list(tree), tree + (None,), tree[:-1], (tree,), [tree], tree[::-1], (tree[0].upper(),) + tree[1:],
              (True,) + tree[1:], {tree[0]: tree[1:]}, (b"floor",), ("cases",), ("cases", {}), ("floor", {}),
              ("floor", None), "floor", "cases", ("cases", FLOOR), ("cases", [FLOOR, FLOOR]), (tree[0], tree),
              ("floor ",) + tree[1:]]
    if len(tree) == 2:
        trees = tree[1]
        things += [trees, ("cases", list(trees.items())), ("cases", list(trees.values())), ("floor", trees)]
        things.append(("cases", {**trees, 49: FLOOR}))
        things.append(("cases", {**trees, -1: FLOOR}))
        things.append(("cases", {**trees, "0": FLOOR}))
        things.append(("cases", {**trees, None: FLOOR}))
        things.append(("cases", {**trees, (0,): FLOOR}))
        for block in trees:
            less = {key: trees[key] for key in trees if key != block}
            things.append(("cases", less))
            things.append(("cases", {**less, str(block): trees[block]}))
            things.append(("cases", {**less, (block,): trees[block]}))
            things.append(("cases", {**less, block + 50: trees[block]}))
            for other in (None, [], (), {}, "floor", True, Book((), ()), deep(lambda k: [k], 36)):
                things.append(("cases", {**less, block: other}))
            for other in otherwise(trees[block])[:12] if len(trees[block]) == 1 else otherwise(trees[block]):
                things.append(("cases", {**less, block: other}))
    return things


class TreeFor(unittest.TestCase):
    def test_none_just_if_the_least_number_is_less(self):
        for book in sample():
            for number in range(fewest(book) + 3):
                tree = tree_for(book, number)
                self.assertIs(tree is None, fewest(book) < number)
                if tree is not None:
                    self.assertIs(shows(book, number, (), tree), True, (book.blocks, book.needs, number))
                    self.assertIs(is_tree(book, number, tree), True)

    def test_ordinary(self):
        self.assertEqual((tree_for(LATE, 0), tree_for(LATE, 2), tree_for(LATE, 3)), (FLOOR, FLOOR, None))
        self.assertEqual((tree_for(EMPTY, 0), tree_for(EMPTY, 1)), (FLOOR, None))
        # six writes, and no two blocks ask for more than five: so it must go on
        self.assertEqual((fewest(ROUND), pair_floor(ROUND)), (6, 5))
        self.assertEqual(tree_for(ROUND, 5), FLOOR)
        self.assertEqual(tree_for(ROUND, 6)[0], "cases")
        self.assertIsNone(tree_for(ROUND, 7))
        self.assertIsNone(tree_for(ROUND, 10 ** 59))

    def test_trees_that_must_go_on_by_several_writes(self):
        for book in FURTHER:
            tree = tree_for(book, fewest(book))
            self.assertIn("cases", [below[0] for below in tree[1].values()])

    def test_no_number_ahead_of_too_many(self):
        nine = Book(tuple(range(9)), ())
        for thing in NO_NUMBERS:
            for book in (LATE, EMPTY, nine, WIDE):
                with self.assertRaises(NoNumber):
                    tree_for(book, thing)

    def test_eight_changes_let(self):
        eight = Book(tuple(range(8)), ())
        self.assertEqual((tree_for(eight, 8), tree_for(eight, 9)), (FLOOR, None))
        for number in (0, 3, 100):
            with self.assertRaises(TooMany) as caught:
                tree_for(Book(tuple(range(9)), ()), number)
            self.assertEqual(caught.exception.most, 8)

    def test_what_is_returned_is_new_with_what_is_inside(self):
        book = beside(LATE, ROUND)
        book = day(book, (0, 1, 3, 4, 5, 6, 7, 8))
        tree = tree_for(book, fewest(book))
        again = copy.deepcopy(tree)
        self.assertEqual(tree[0], "cases")
        waiting = [tree]
        seen = []
        while waiting:
            here = waiting.pop()
            if len(here) == 2:
                self.assertNotIn(id(here[1]), seen)
                seen.append(id(here[1]))
                waiting.extend(here[1].values())
        tree[1].clear()
        self.assertEqual(tree_for(book, fewest(book)), again)


class IsTree(unittest.TestCase):
    def test_trees_that_go_on_further_than_they_must(self):
        for book in sample():
            if len(book.blocks) > 6:
                continue
            for deepest in range(1, 5):
                tree = full_tree(book, (), deepest)
                for number in range(fewest(book) + 2):
                    self.assertIs(is_tree(book, number, tree), shows(book, number, (), tree))
            # to the end of all rows: then the numbers tell just the least one
            tree = full_tree(book, (), 9)
            self.assertIs(is_tree(book, fewest(book), tree), True)
            self.assertIs(is_tree(book, fewest(book) + 1, tree), False)

    def test_numbers_that_go_below_nothing(self):
        tree = full_tree(LATE, (), 9)
        self.assertIs(is_tree(LATE, 0, tree), True)
        self.assertIs(is_tree(LATE, 1, tree), True)
        self.assertIs(is_tree(LATE, 2, tree), True)
        self.assertIs(is_tree(LATE, 3, tree), False)
        long = full_tree(ROUND, (), 9)
        self.assertIs(is_tree(ROUND, 0, long), True)

    def test_no_cases_where_all_is_there(self):
        self.assertIs(is_tree(EMPTY, 0, FLOOR), True)
        self.assertIs(is_tree(EMPTY, 1, FLOOR), False)
        self.assertIs(is_tree(EMPTY, 0, ("cases", {})), False)
        one = Book((4,), ())
        self.assertIs(is_tree(one, 1, ("cases", {4: FLOOR})), True)
        self.assertIs(is_tree(one, 1, ("cases", {4: ("cases", {})})), False)
        self.assertIs(is_tree(one, 0, ("cases", {4: ("cases", {})})), False)

    def test_with_one_thing_otherwise(self):
        for book in sample()[::5] + [LATE, ROUND, Book((0, 1, 1, 2), ((1, 0), (3, 1)))]:
            for tree in (full_tree(book, (), 2), tree_for(book, fewest(book)) if len(book.blocks) <= 8 else FLOOR):
                for thing in otherwise(tree):
                    for number in (0, fewest(book)):
                        self.assertIs(is_tree(book, number, thing), shows(book, number, (), thing), thing)

    def test_leaves_that_do_not_reach(self):
        self.assertIs(is_tree(ROUND, 6, FLOOR), False)
        self.assertIs(is_tree(ROUND, 6, ("cases", {0: FLOOR})), floor_at(ROUND, (0,)) >= 5)
        self.assertIs(is_tree(LATE, 2, ("cases", {0: FLOOR})), False)
        self.assertIs(is_tree(LATE, 2, ("cases", {0: FLOOR, 1: FLOOR})), True)
        self.assertIs(is_tree(LATE, 3, ("cases", {0: FLOOR, 1: FLOOR})), False)

    def test_things_of_any_kind(self):
        for thing in odd_things() + [0, 1, ("floor", "floor"), ("cases", {0: 0, 1: 1}), ("cases", ("floor",))]:
            for book in (LATE, EMPTY, ROUND, WIDE):
                self.assertIs(is_tree(book, 0, thing), False)
            self.assertIs(is_tree(LATE, 0, ("cases", thing)), False)
            self.assertIs(is_tree(LATE, 0, ("cases", {0: FLOOR, 1: thing})), False)
            self.assertIs(is_tree(LATE, 0, (thing, {0: FLOOR, 1: FLOOR})), False)
            self.assertIs(is_tree(LATE, 0, (thing,)), False)

    def test_no_number(self):
        for thing in NO_NUMBERS:
            for tree in (FLOOR, None, ("cases", {})):
                for book in (LATE, EMPTY, WIDE):
                    with self.assertRaises(NoNumber):
                        is_tree(book, thing, tree)
        self.assertIs(is_tree(LATE, 10 ** 59, FLOOR), False)

    def test_deep_trees(self):
        # twenty writes one behind another: a thing nested forty deep
        chain = day(CHAIN, tuple(range(19)))
        tree = FLOOR
        for change in reversed(range(19)):
            tree = ("cases", {change % 3: tree})
        self.assertIs(is_tree(chain, 19, tree), True)
        self.assertIs(is_tree(chain, 20, tree), False)
        self.assertIs(is_tree(CHAIN, 100, tree), True)

    def test_great_books(self):
        self.assertIs(is_tree(WIDE, 11, FLOOR), True)
        self.assertIs(is_tree(WIDE, 12, FLOOR), False)
        self.assertIs(is_tree(WIDE, 11, ("cases", {block: FLOOR for block in range(11)})), True)
        great = beside(CHAIN, CHAIN)
        self.assertIs(is_tree(great, pair_floor(great), FLOOR), True)
        self.assertIs(is_tree(great, pair_floor(great) + 1, FLOOR), False)

    def test_wide_trees(self):
        book = Book(tuple(range(50)), ())
        tree = ("cases", {block: ("cases", {other: FLOOR for other in range(50) if other != block})
                          for block in range(50)})
        self.assertIs(is_tree(book, 50, tree), True)
        self.assertIs(is_tree(book, 51, tree), False)
        tree[1][7][1][6] = "floor"
        self.assertIs(is_tree(book, 50, tree), False)


class Floors(unittest.TestCase):
    def test_all_standings_that_can_come(self):
        for book in sample() + thrown_books(56, 20, 10, 4):
            told = floors(book)
            self.assertEqual(told, {lot: floor_at(book, lot) for lot in reached(book)})
            self.assertTrue(all(type(lot) is tuple for lot in told))

    def test_no_willing_row_is_shorter(self):
        for book in thrown_books(57, 60, 8, 3):
            for lot, number in floors(book).items():
                self.assertLessEqual(number, fewest(day(book, left_at(book, lot))))

    def test_ordinary(self):
        self.assertEqual(floors(EMPTY), {(): 0})
        self.assertEqual(floors(LATE), {(): 2, (0,): 1, (2,): 2, (0, 2): 1, (0, 1, 2): 0})

    def test_standings_that_no_writes_lead_to_are_not_there(self):
        book = Book((0, 0, 1), ())
        self.assertEqual(sorted(floors(book)), [(), (0, 1), (0, 1, 2), (2,)])
        self.assertIn((0,), closed_lots(book))

    def test_too_many(self):
        with self.assertRaises(TooMany) as caught:
            floors(WIDE)
        self.assertEqual(caught.exception.most, 2000)
        self.assertEqual(len(floors(Book(tuple(range(10)), ()))), 1024)

    def test_great_books(self):
        told = floors(CHAIN)
        self.assertEqual((len(told), told[tuple(range(200))], told[tuple(range(199))]), (201, 0, 1))
        self.assertEqual(told[()], pair_floor(CHAIN))


if __name__ == "__main__":
    unittest.main()
