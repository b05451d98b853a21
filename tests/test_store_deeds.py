"""12.2: what a store tells, its writes and cuts; long rows of deeds beside a plain store; ties never go astray."""

import unittest

from ripewaves.errors import NoBlock, NoRecord, NoSlot, TooMany
from ripewaves.even import fewest
from ripewaves.records import Records
from model import PlainStore
from oracle import Dice, odd_things, outcome
from test_records import changes, made, state

SIZES = [(1,), (2,), (1, 1), (2, 1), (1, 1, 1), (2, 2), (3, 1, 2), (1, 1, 1, 1)]


def drawn_deed(dice, slots):
    """A method's name and its arguments; many are wrong."""
    many = sum(slots)
    name = ("make make make put tie tie tie tie untie untie drop drop drop write write write flush cut settle "
            "ties_to").split()[dice.below(20)]
    if name == "make":
        return name, (dice.below(4),)
    if name == "put":
        return name, (dice.below(many + 1), dice.below(4))
    if name == "tie":
        return name, (dice.below(many + 1), dice.below(many))
    if name in ("untie", "drop", "settle", "ties_to"):
        return name, (dice.below(many + 1),)
    return name, (dice.below(len(slots) + 1),) if name == "write" else ()


def told(store):
    """All that a store tells, and its cache."""
    cache = store.cache()
    blocks = range(len(store.slots))
    return (
        store.records(), store.on_disk(), cache.waiting(), cache.writes(), cache.history(), cache.book(), cache.ripe(),
        [(cache.seen(block), cache.picture(block), cache.disk(block)) for block in blocks],
        [store.ties_to(slot) for slot in store.records()],
    )


def long_row(seed, slots, many, rarely=3):
    """Pairs of a store and a plain store, behind each of many drawn deeds that both answer alike."""
    dice = Dice(seed)
    store, plain = Records(slots), PlainStore(slots)
    for _ in range(many):
        name, given = drawn_deed(dice, slots)
        if name in ("flush", "cut", "settle") and dice.below(rarely) > 0:
            continue
        yield name, given, outcome(getattr(store, name), *given), outcome(getattr(plain, name), *given), store, plain


class Beside(unittest.TestCase):
    def test_long_rows_of_deeds(self):
        for seed in range(32):
            for name, given, got, wanted, store, plain in long_row(1200 + seed, SIZES[seed % 8], 70):
                self.assertEqual(got, wanted, (seed, name, given))
                self.assertEqual(told(store), told(plain), (seed, name, given))

    def test_ties_never_go_astray(self):
        ties = 0
        for seed in range(40):
            for *_, store, plain in long_row(1300 + seed, SIZES[2 + seed % 6], 60):
                self.assertEqual(plain.astray(), [])
                disk = store.on_disk()
                self.assertEqual(disk, plain.on_disk())
                for block, many in enumerate(store.slots):
                    row = store.cache().disk(block)
                    at = sum(store.slots[:block])
                    for slot in range(many):
                        if row[2 * slot + 1]:
                            ties += 1
                            self.assertIn(at + slot, disk)
                            self.assertIn(row[2 * slot + 1] - 1, disk)
        self.assertGreater(ties, 300)

    def test_wherever_it_is_cut(self):
        for seed in range(12):
            for *_, store, plain in long_row(1400 + seed, SIZES[3 + seed % 5], 25):
                # write on in all ways of three writes, and cut behind each
                for first in range(len(store.slots)):
                    for second in range(len(store.slots)):
                        twin, other = store.copy(), plain.copy()
                        for block in (first, second, first):
                            self.assertEqual(twin.write(block), other.write(block))
                            self.assertEqual(other.astray(), [])
                        disk = twin.on_disk()
                        self.assertEqual(twin.cut(), other.cut())
                        self.assertEqual((twin.records(), twin.on_disk()), (disk, disk))


class Told(unittest.TestCase):
    def test_records_and_on_disk(self):
        store = made((1, 2), 5, 6, 7)
        store.tie(0, 2)
        self.assertEqual((store.records(), store.on_disk()), ({0: (5, 2), 1: (6, None), 2: (7, None)}, {}))
        # the tie waits for the record to which it leads
        self.assertEqual((store.write(0), store.on_disk()), ((0,), {0: (5, None)}))
        self.assertEqual((store.write(1), store.write(0)), ((1, 2), (3,)))
        self.assertEqual(store.on_disk(), store.records())
        self.assertEqual((store.write(0), store.cache().writes()), ((), 4))

    def test_ties_to(self):
        store = made((2, 2), 1, 2, 3, 4)
        store.tie(3, 1)
        store.tie(0, 1)
        self.assertEqual([store.ties_to(slot) for slot in range(4)], [(), (0, 3), (), ()])
        store.flush()
        store.untie(3)
        self.assertEqual(store.ties_to(1), (0,))
        store.cut()
        self.assertEqual(store.ties_to(1), (0, 3))
        for thing in odd_things() + [4, [0], "0"]:
            with self.assertRaises(NoRecord):
                store.ties_to(thing)

    def test_no_block(self):
        store = made((1, 1), 5)
        before = state(store)
        for thing in odd_things() + [2, [0], (0,), "0", {0: 0}]:
            with self.assertRaises(NoBlock):
                store.write(thing)
        self.assertEqual(state(store), before)

    def test_flush(self):
        store = made((1, 1), 5, 6)
        store.tie(0, 1)
        store.tie(1, 0)
        self.assertEqual((store.flush(), store.flush()), ((0, 1, 0), ()))
        self.assertEqual((store.on_disk(), store.cache().waiting()), ({0: (5, 1), 1: (6, 0)}, ()))

    def test_behind_a_cut_the_records_are_those_of_the_disk(self):
        store = made((1, 1), 5, 6)
        store.write(0)
        store.put(0, 7)
        store.tie(0, 1)
        self.assertEqual((store.cut(), store.records()), ((1, 2, 3), {0: (5, None)}))
        self.assertEqual((store.make(8), store.records()), (1, {0: (5, None), 1: (8, None)}))
        self.assertEqual(store.cut(), (4,))
        self.assertEqual(store.cut(), ())

    def test_dicts_are_new(self):
        store = made((1, 1), 5, 6)
        store.flush()
        for told_by in (store.records, store.on_disk):
            told_by()[0] = None
            told_by().clear()
            self.assertEqual(told_by(), {0: (5, None), 1: (6, None)})


class Copies(unittest.TestCase):
    def test_copies_go_on_apart(self):
        for seed in range(10):
            slots = SIZES[2 + seed % 6]
            dice = Dice(1500 + seed)
            for *_, store, plain in long_row(1500 + seed, slots, 30):
                twin, before = store.copy(), told(store)
                self.assertEqual((told(twin), type(twin)), (before, Records))
                other = plain.copy()
                for _ in range(6):
                    name, given = drawn_deed(dice, slots)
                    self.assertEqual(outcome(getattr(twin, name), *given), outcome(getattr(other, name), *given))
                self.assertEqual(told(twin), told(other))
                self.assertEqual(told(store), before)

    def test_what_took_away_a_tie_is_copied(self):
        store = made((1, 1), 5, 6)
        store.tie(0, 1)
        store.untie(0)
        twin = store.copy()
        twin.drop(1)
        self.assertEqual(changes(twin)[4:], [(4, 1, [1, 3])])
        store.tie(0, 1)
        store.untie(0)
        store.drop(1)
        self.assertEqual(changes(store)[4:], [(4, 0, [0, 1, 3]), (5, 0, [4]), (6, 1, [1, 3, 5])])

    def test_equal_to_nothing_else(self):
        store = made((1,), 5)
        for thing in odd_things() + [store.cache(), {0: (5, None)}, (1,)]:
            self.assertFalse(store == thing)


class Settle(unittest.TestCase):
    def test_the_first_of_the_shortest_rows(self):
        for seed in range(20):
            slots = SIZES[2 + seed % 6]
            for *_, store, plain in long_row(1600 + seed, slots, 30):
                for slot in range(sum(slots)):
                    twin, other = store.copy(), plain.copy()
                    self.assertEqual(twin.settle(slot), other.settle(slot))
                    self.assertEqual(told(twin), told(other))
                    # both fields of the slot are on the disk as they are seen
                    block, field = plain.field(slot, 0)
                    cache = twin.cache()
                    self.assertEqual(cache.disk(block)[field:field + 2], cache.seen(block)[field:field + 2])

    def test_ordinary(self):
        store = made((1, 1), 5, 6)
        store.tie(0, 1)
        twin = store.copy()
        self.assertEqual((store.settle(0), store.settle(0), store.on_disk()), ((1, 0), (), {0: (5, 1), 1: (6, None)}))
        self.assertEqual((twin.settle(1), twin.on_disk(), twin.settle(0)), ((1,), {1: (6, None)}, (0,)))

    def test_both_fields(self):
        store = made((1, 1, 1), 5, 6, 7)
        store.flush()
        store.tie(1, 2)
        store.tie(1, 0)
        store.put(0, 8)
        store.drop(1)
        self.assertEqual((store.settle(1), store.on_disk()), ((1,), {0: (5, None), 2: (7, None)}))

    def test_free_slots(self):
        store = made((1, 2), 5)
        self.assertEqual((store.settle(2), store.settle(1), store.settle(0)), ((), (), (0,)))

    def test_no_slot_then_too_many(self):
        store = Records((1,) * 8)
        for pair in range(8):
            store.make(1)
        for pair in (0, 2, 4, 6):
            for _ in range(3):
                store.tie(pair, pair + 1)
                store.untie(pair)
                store.drop(pair + 1)
                store.make(2)
        before = state(store)
        for thing in odd_things() + [8, [0], (0,), "0", {0: 0}]:
            with self.assertRaises(NoSlot):
                store.settle(thing)
        for slot in range(8):
            with self.assertRaises(TooMany) as caught:
                store.settle(slot)
            self.assertEqual(caught.exception.most, 2000)
        with self.assertRaises(TooMany):
            fewest(store.cache().book()[0])
        self.assertEqual(state(store), before)
        store.flush()
        self.assertEqual(store.settle(0), ())

    def test_no_slot(self):
        store = made((2, 1), 5)
        for thing in odd_things() + [3, [0], (0,), "0", {0: 0}]:
            with self.assertRaises(NoSlot):
                store.settle(thing)


if __name__ == "__main__":
    unittest.main()
