"""1.3: changes that need one another become one."""

import unittest

from ripewaves.books import Book, drawn_together
from ripewaves.errors import BadBook, RingApart
from oracle import Dice, deep, odd_things, reach


def plainly(blocks, needs):
    """What drawn_together gives, by the definition: (blocks, needs, lots), or a lot that lies apart."""
    many = len(blocks)
    far = reach(many, needs)
    lots = []
    for change in range(many):
        lot = tuple(o for o in range(many) if o == change or (o in far[change] and change in far[o]))
        if lot[0] == change:
            lots.append(lot)
    for lot in lots:
        if len({blocks[change] for change in lot}) > 1:
            return lot
    place = {change: at for at, lot in enumerate(lots) for change in lot}
    pairs = {(place[c], place[o]) for c, o in needs if place[c] != place[o]}
    return tuple(blocks[lot[0]] for lot in lots), tuple(sorted(pairs)), tuple(lots)


class Together(unittest.TestCase):
    def drawn(self, blocks, needs, book, lots):
        got = drawn_together(blocks, needs)
        self.assertIs(type(got), tuple)
        self.assertEqual(got, (book, lots))

    def test_without_rings(self):
        self.drawn((0, 1, 1), ((1, 0),), Book((0, 1, 1), ((1, 0),)), ((0,), (1,), (2,)))
        self.drawn((), (), Book((), ()), ())
        self.drawn((49,), (), Book((49,), ()), ((0,),))

    def test_needs_that_others_tell_already_stay(self):
        needs = ((1, 0), (2, 0), (2, 1))
        self.drawn((0, 1, 2), needs, Book((0, 1, 2), needs), ((0,), (1,), (2,)))

    def test_rings_within_one_block(self):
        self.drawn((0, 0, 1), ((0, 1), (1, 0), (2, 1)), Book((0, 1), ((1, 0),)), ((0, 1), (2,)))
        self.drawn((5, 5, 5), ((0, 1), (1, 2), (2, 0)), Book((5,), ()), ((0, 1, 2),))
        self.drawn((2, 2, 2, 2), ((0, 3), (1, 0), (3, 1)), Book((2, 2), ()), ((0, 1, 3), (2,)))

    def test_rings_that_share_a_change_are_one(self):
        needs = ((0, 1), (1, 0), (1, 2), (2, 1), (3, 2))
        self.drawn((4, 4, 4, 0), needs, Book((4, 0), ((1, 0),)), ((0, 1, 2), (3,)))

    def test_several_rings(self):
        needs = ((0, 4), (1, 3), (2, 0), (3, 1), (3, 2), (4, 0), (5, 1), (5, 3))
        self.drawn((0, 1, 0, 1, 0, 2), needs, Book((0, 1, 0, 2), ((1, 2), (2, 0), (3, 1))),
                   ((0, 4), (1, 3), (2,), (5,)))

    def test_a_ring_that_reaches_another_is_not_one_with_it(self):
        needs = ((0, 1), (0, 2), (1, 0), (2, 3), (3, 2))
        self.drawn((0, 0, 0, 0), needs, Book((0, 0), ((0, 1),)), ((0, 1), (2, 3)))

    def test_many(self):
        ring = ((0, 199),) + tuple((change, change - 1) for change in range(1, 200))
        self.drawn((7,) * 200, ring, Book((7,), ()), (tuple(range(200)),))
        pairs = tuple(sorted([(a, a ^ 1) for a in range(200)] + [(a, a - 2) for a in range(2, 200)]))
        blocks = tuple(a // 2 % 50 for a in range(200))
        self.drawn(blocks, pairs, Book(tuple(k % 50 for k in range(100)), tuple((k, k - 1) for k in range(1, 100))),
                   tuple((2 * k, 2 * k + 1) for k in range(100)))

    def test_as_defined(self):
        dice = Dice(3)
        apart = 0
        for _ in range(600):
            many = dice.below(7)
            blocks = tuple(dice.below(2) * dice.below(2) for _ in range(many))
            needs = tuple((a, b) for a in range(many) for b in range(many) if a != b and dice.below(5) == 0)
            want = plainly(blocks, needs)
            if len(want) == 3 and isinstance(want[0], tuple):
                self.assertEqual(drawn_together(blocks, needs), (Book(want[0], want[1]), want[2]))
            else:
                apart += 1
                with self.assertRaises(RingApart) as caught:
                    drawn_together(blocks, needs)
                self.assertEqual(caught.exception.lot, want)
        self.assertGreater(apart, 50)


class Apart(unittest.TestCase):
    def apart(self, lot, blocks, needs):
        with self.assertRaises(RingApart) as caught:
            drawn_together(blocks, needs)
        self.assertEqual(caught.exception.lot, lot)
        self.assertIs(type(caught.exception.lot), tuple)

    def test_a_ring_in_two_blocks(self):
        self.apart((0, 1), (0, 1), ((0, 1), (1, 0)))
        self.apart((0, 2), (0, 1, 2), ((0, 2), (2, 0)))

    def test_the_lot_is_all_that_need_one_another(self):
        self.apart((0, 1, 2, 3), (0, 1, 0, 0), ((0, 1), (1, 2), (2, 3), (3, 0)))
        self.apart((0, 1, 2), (3, 3, 4), ((0, 1), (1, 0), (1, 2), (2, 1)))

    def test_the_least_such_lot(self):
        needs = ((0, 5), (1, 4), (2, 3), (3, 2), (4, 1), (5, 0))
        self.apart((1, 4), (0, 0, 0, 1, 1, 0), needs)
        self.apart((2, 3), (0, 1, 0, 1, 1, 0), needs)
        self.apart((0, 5), (0, 0, 0, 1, 1, 1), needs)


class Wrong(unittest.TestCase):
    def part(self, part, blocks, needs):
        with self.assertRaises(BadBook) as caught:
            drawn_together(blocks, needs)
        self.assertEqual(caught.exception.part, part)

    def test_as_of_a_book(self):
        for thing in odd_things():
            self.part("blocks", thing, ())
            self.part("blocks", (thing,), ())
            if not isinstance(thing, tuple):
                self.part("needs", (0, 0), thing)
            self.part(0, (0, 0), (thing,))
        self.part("blocks", (0,) * 201, ())
        self.part("blocks", (50,), ())
        self.part("blocks", (True,), ())
        self.part("needs", (0,) * 200, tuple((a, b) for a in range(200) for b in range(a))[:4001])
        self.part(0, (0, 0), ((1, 1),))
        self.part(0, (0, 0), ((1, 2),))
        self.part(1, (0, 0), ((1, 0), (1, 0)))
        self.part(1, (0, 0), ((1, 0), (0, 1)))
        self.part(0, (0, 0), (deep(lambda inner: (inner, 0), 40),))

    def test_bad_book_ahead_of_ring_apart(self):
        self.part("blocks", (0, 50), ((0, 1), (1, 0)))
        self.part("needs", (0, 1), [(0, 1), (1, 0)])
        self.part(2, (0, 1), ((0, 1), (1, 0), (1, 1)))

    def test_never_ring(self):
        drawn_together((0, 0), ((0, 1), (1, 0)))


if __name__ == "__main__":
    unittest.main()
