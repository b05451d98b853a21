"""1.1: what a book is."""

import unittest
import unittest.mock

from ripewaves.books import Book
from ripewaves.errors import BadBook
from oracle import Dice, deep, has_ring, odd_things

CHAIN = tuple((change, change - 1) for change in range(1, 200))


def all_pairs_down(many):
    return [(a, b) for a in range(many) for b in range(a)]


class Right(unittest.TestCase):
    def made(self, blocks, needs):
        book = Book(blocks, needs)
        self.assertEqual(book.blocks, blocks)
        self.assertEqual(book.needs, needs)
        self.assertIs(type(book.blocks), tuple)
        self.assertIs(type(book.needs), tuple)
        return book

    def test_ordinary_books(self):
        self.made((0, 1, 1), ((1, 0),))
        self.made((0, 0, 1, 1), ((1, 2), (3, 0)))
        self.made((0, 0, 1), ((1, 2), (2, 0)))
        self.made((2, 0, 1), ((1, 0), (2, 1)))

    def test_nothing(self):
        self.made((), ())
        self.made((7,), ())

    def test_two_hundred_changes_and_blocks_0_and_49(self):
        self.made((0,) * 200, ())
        self.made((49,) * 200, CHAIN)
        self.made(tuple(range(50)) * 4, CHAIN)

    def test_thousands_of_needs(self):
        self.made((0,) * 100, tuple(all_pairs_down(90)[:4000]))
        self.made((3,) * 200, tuple(all_pairs_down(200)[-4000:]))
        upwards = sorted((b, a) for a, b in all_pairs_down(90)[:4000])
        self.assertEqual(len(upwards), 4000)
        self.made((0, 49) * 100, tuple(upwards))

    def test_needs_in_both_directions_without_a_ring(self):
        self.made((0, 1, 2, 3), ((0, 3), (2, 0), (2, 1), (2, 3)))

    def test_two_ways_to_one_change_are_no_ring(self):
        self.made((0,) * 4, ((1, 0), (2, 0), (3, 0), (3, 1), (3, 2)))


class Wrong(unittest.TestCase):
    def part(self, part, blocks, needs):
        with self.assertRaises(BadBook) as caught:
            Book(blocks, needs)
        self.assertEqual(caught.exception.part, part)
        self.assertIs(type(caught.exception.part), type(part))

    def test_blocks_of_other_kinds(self):
        for thing in odd_things():
            self.part("blocks", thing, ())
            self.part("blocks", (0, thing), ())
        self.part("blocks", [0, 1, 1], ((1, 0),))

    def test_blocks_that_are_wrong_numbers(self):
        for blocks in ((50,), (-1,), (0, 50), (0, 1, True), (False,), (10 ** 59,)):
            self.part("blocks", blocks, ())

    def test_201_changes(self):
        self.part("blocks", (0,) * 201, ())

    def test_needs_of_other_kinds(self):
        for thing in odd_things():
            if not isinstance(thing, tuple):
                self.part("needs", (0, 1), thing)
        self.part("needs", (0, 1), [(1, 0)])

    def test_4001_needs(self):
        self.part("needs", (0,) * 200, tuple(all_pairs_down(200)[:4001]))
        self.part("needs", (0,) * 200, (None,) * 4001)
        self.part("needs", (), ((0, 1),) * 4001)

    def test_an_item_of_another_kind(self):
        for thing in odd_things() + [0, 1, ()]:
            self.part(0, (0, 0, 0), (thing,))
            self.part(1, (0, 0, 0), ((0, 1), thing))
            self.part(1, (0, 0, 0), ((0, 1), thing, (2, 1)))

    def test_a_pair_of_other_things(self):
        for thing in odd_things() + [3, (), (0,), (0, 1)]:
            self.part(0, (0, 0, 0), ((thing, 1),))
            self.part(0, (0, 0, 0), ((1, thing),))
            self.part(1, (0, 0, 0), ((0, 1), (2, thing)))

    def test_an_item_that_is_a_list(self):
        self.part(0, (0, 0), ([1, 0],))

    def test_items_of_one_and_of_three(self):
        self.part(0, (0, 0, 0), ((1,),))
        self.part(0, (0, 0, 0), ((2, 1, 0),))

    def test_flags_for_changes(self):
        self.part(0, (0, 0), ((True, 0),))
        self.part(0, (0, 0), ((1, False),))

    def test_a_change_that_needs_itself(self):
        self.part(0, (0, 0), ((0, 0),))
        self.part(1, (0, 0), ((0, 1), (1, 1)))

    def test_beyond(self):
        self.part(0, (0, 0), ((1, 2),))
        self.part(0, (0, 0), ((2, 1),))
        self.part(0, (0, 0), ((-1, 1),))
        self.part(0, (0, 0), ((1, -1),))
        self.part(0, (), ((1, 0),))

    def test_twice(self):
        self.part(1, (0, 0), ((1, 0), (1, 0)))

    def test_not_ascending(self):
        self.part(1, (0, 0, 0), ((2, 0), (1, 0)))
        self.part(1, (0, 0, 0), ((2, 1), (2, 0)))
        self.part(2, (0, 0, 0), ((1, 0), (2, 1), (2, 0)))

    def test_the_first_wrong_item_is_named(self):
        self.part(1, (0, 0, 0), ((1, 0), (1, 0), (2, 2)))
        self.part(1, (0, 0, 0), ((1, 0), (9, 0), (1, 0)))
        self.part(0, (0, 0, 0), (None, None))
        needs = all_pairs_down(80)[:3000]
        self.part(2999, (0,) * 100, tuple(needs[:2999]) + (needs[0],))

    def test_rings(self):
        self.part("ring", (0, 0), ((0, 1), (1, 0)))
        self.part("ring", (0, 1), ((0, 1), (1, 0)))
        self.part("ring", (0, 1, 2), ((0, 1), (1, 2), (2, 0)))
        self.part("ring", (0, 1, 2), ((0, 2), (1, 0), (2, 1)))
        self.part("ring", (0,) * 5, ((0, 1), (1, 2), (2, 3), (3, 4), (4, 0)))

    def test_a_ring_beneath_and_above_others(self):
        self.part("ring", (0,) * 4, ((0, 1), (1, 2), (2, 1), (3, 0)))
        self.part("ring", (0,) * 4, ((1, 0), (1, 2), (2, 1), (3, 2)))

    def test_a_ring_far_along_a_row(self):
        self.part("ring", (0,) * 200, ((0, 199),) + CHAIN)
        self.part("ring", (0,) * 200, CHAIN[:99] + ((100, 99), (100, 199)) + CHAIN[100:])
        self.part("ring", (0,) * 200, CHAIN[:-1] + ((198, 199), (199, 198)))

    def test_the_order_of_the_parts(self):
        self.part("blocks", [0], [0])
        self.part("blocks", (50,), (None,))
        self.part("blocks", (0, 50), ((0, 1), (1, 0)))
        self.part("needs", (0, 0), [(0, 0)])
        self.part(2, (0, 0), ((0, 1), (1, 0), (1, 0)))
        self.part(2, (0, 0, 0), ((0, 1), (1, 0), [2, 0]))

    def test_deep_things(self):
        for many in (1, 39, 40):
            self.part("blocks", deep(lambda inner: (inner,), many), ())
            self.part("blocks", (deep(lambda inner: [inner], many),), ())
            self.part(0, (0, 0), (deep(lambda inner: (inner, 0), many),))

    def test_rings_of_thrown_needs(self):
        dice = Dice(11)
        for _ in range(400):
            many = 2 + dice.below(5)
            pairs = [(a, b) for a in range(many) for b in range(many) if a != b and dice.below(4) == 0]
            if has_ring(many, pairs):
                self.part("ring", (0,) * many, tuple(pairs))
            else:
                self.assertEqual(Book((0,) * many, tuple(pairs)).needs, tuple(pairs))


class Equality(unittest.TestCase):
    def test_equal_if_both_are(self):
        book = Book((0, 1, 1), ((1, 0),))
        self.assertTrue(book == Book((0, 1, 1), ((1, 0),)))
        self.assertFalse(book != Book((0, 1, 1), ((1, 0),)))
        self.assertTrue(book == book)
        self.assertFalse(book == Book((0, 1, 2), ((1, 0),)))
        self.assertFalse(book == Book((0, 1, 1), ()))
        self.assertFalse(book == Book((0, 1, 1), ((2, 0),)))
        self.assertTrue(book != Book((0, 1, 1), ((2, 0),)))
        self.assertTrue(Book((), ()) == Book((), ()))

    def test_the_same_needs_however_far_are_not_enough(self):
        bare = Book((0, 1, 2), ((1, 0), (2, 1)))
        full = Book((0, 1, 2), ((1, 0), (2, 0), (2, 1)))
        self.assertFalse(bare == full)

    def test_equal_to_nothing_of_another_kind(self):
        book = Book((0, 1, 1), ((1, 0),))
        for thing in odd_things() + [0, 1.5, {1}, ((0, 1, 1), ((1, 0),)), unittest.mock.ANY, BadBook(book)]:
            self.assertIs(book == thing, False)
            self.assertIs(book != thing, True)


if __name__ == "__main__":
    unittest.main()
