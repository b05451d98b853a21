"""12.1: a store of records: its deeds, and just which changes of the cache they make."""

import unittest

from ripewaves.books import Book
from ripewaves.cache import Cache
from ripewaves.errors import BadSlots, Full, NoBlock, NoRecord, NoWord, SameRecord, Tied
from ripewaves.records import Records
from oracle import deep, odd_things

WRONG_WORDS = odd_things() + [0, -1, 10 ** 30 + 1, "5", [5], (5,), {5: 5}, True]


def made(slots, *words):
    store = Records(slots)
    for word in words:
        store.make(word)
    return store


def changes(store):
    """For each change that waits its number, its block, and the numbers of the changes that wait that it needs."""
    book, lot = store.cache().book()
    return [(number, book.blocks[at], [lot[other] for change, other in book.needs if change == at])
            for at, number in enumerate(lot)]


def state(store):
    cache = store.cache()
    worths = [(cache.seen(block), cache.disk(block)) for block in range(len(store.slots))]
    return store.records(), store.on_disk(), worths, cache.book(), cache.history(), cache.writes()


class Slots(unittest.TestCase):
    def test_bad_slots(self):
        wrong = [(), [], [1], (0,), (11,), (1, 0), (1,) * 9, (1, True), (1, "1"), (1, None), ((1,),), {1: 1}, 1, "1",
                 (1, -1), (10 ** 59,), (1, [1])]
        for thing in odd_things() + wrong:
            with self.assertRaises(BadSlots):
                Records(thing)

    def test_right_slots(self):
        for slots in [(1,), (10,), (1, 10) * 4, (10,) * 8]:
            store = Records(slots)
            self.assertEqual((store.records(), store.on_disk(), type(store.cache())), ({}, {}, Cache))
            for block, many in enumerate(slots):
                self.assertEqual(store.cache().seen(block), (0,) * (2 * many))
            with self.assertRaises(NoBlock):
                store.cache().seen(len(slots))

    def test_numbers_of_slots_through_several_blocks(self):
        store = Records((1, 3, 2))
        self.assertEqual([store.make(word) for word in (11, 12, 13, 14, 15, 16)], [0, 1, 2, 3, 4, 5])
        store.tie(5, 1)
        cache = store.cache()
        self.assertEqual((cache.seen(0), cache.seen(1), cache.seen(2)),
                         ((11, 0), (12, 0, 13, 0, 14, 0), (15, 0, 16, 2)))
        with self.assertRaises(Full):
            store.make(17)


class Make(unittest.TestCase):
    def test_words(self):
        store = Records((3,))
        self.assertEqual((store.make(1), store.make(10 ** 30)), (0, 1))
        self.assertEqual(store.records(), {0: (1, None), 1: (10 ** 30, None)})
        for thing in WRONG_WORDS:
            with self.assertRaises(NoWord):
                store.make(thing)
        self.assertEqual(store.records(), {0: (1, None), 1: (10 ** 30, None)})

    def test_no_word_ahead_of_full(self):
        store = made((1,), 5)
        for thing in WRONG_WORDS:
            with self.assertRaises(NoWord):
                store.make(thing)
        with self.assertRaises(Full):
            store.make(5)

    def test_the_least_free_slot(self):
        store = made((2, 2), 1, 2, 3)
        store.drop(1)
        store.drop(0)
        self.assertEqual([store.make(word) for word in (7, 8, 9)], [0, 1, 3])
        self.assertEqual(store.records(), {0: (7, None), 1: (8, None), 2: (3, None), 3: (9, None)})

    def test_it_needs_nothing_but_what_its_field_needs(self):
        store = made((2, 1), 5, 6, 7)
        self.assertEqual(changes(store), [(0, 0, []), (1, 0, []), (2, 1, [])])
        store.drop(1)
        self.assertEqual(store.make(6), 1)
        self.assertEqual(changes(store)[3:], [(3, 0, [1]), (4, 0, [3])])


class Put(unittest.TestCase):
    def test_another_word(self):
        store = made((1, 1), 5, 6)
        self.assertIsNone(store.put(1, 10 ** 30))
        self.assertEqual(store.records(), {0: (5, None), 1: (10 ** 30, None)})
        self.assertEqual(changes(store), [(0, 0, []), (1, 1, []), (2, 1, [1])])

    def test_the_same_word_makes_no_change(self):
        store = made((1, 1), 5, 6)
        before = state(store)
        store.put(0, 5)
        self.assertEqual(state(store), before)
        store.flush()
        store.put(0, 5)
        self.assertEqual(store.cache().waiting(), ())

    def test_no_record_then_no_word(self):
        store = made((2, 1), 5)
        for thing in odd_things() + [1, 2, 3, [0], (0,), "0", {0: 0}]:
            for word in (5, 0, thing):
                with self.assertRaises(NoRecord):
                    store.put(thing, word)
        for thing in WRONG_WORDS:
            with self.assertRaises(NoWord):
                store.put(0, thing)
        self.assertEqual((store.records(), changes(store)), ({0: (5, None)}, [(0, 0, [])]))


class Tie(unittest.TestCase):
    def test_it_needs_the_changes_by_which_both_were_made(self):
        store = made((2, 1), 5, 6, 7)
        store.put(2, 8)
        self.assertIsNone(store.tie(0, 2))
        self.assertEqual(store.records(), {0: (5, 2), 1: (6, None), 2: (8, None)})
        # the put, change 3, is not needed
        self.assertEqual(changes(store)[4:], [(4, 0, [0, 2])])
        store.tie(0, 1)
        self.assertEqual(changes(store)[5:], [(5, 0, [0, 1, 4])])
        self.assertEqual(store.records()[0], (5, 1))

    def test_what_is_on_the_disk_is_needed_no_more(self):
        store = made((1, 1), 5, 6)
        store.write(1)
        store.tie(0, 1)
        self.assertEqual(changes(store), [(0, 0, []), (2, 0, [0])])
        store.flush()
        store.tie(1, 0)
        self.assertEqual(changes(store), [(3, 1, [])])

    def test_what_is_gone_is_needed_no_more(self):
        store = made((1, 1), 5, 6)
        store.flush()
        store.drop(1)
        store.make(7)
        self.assertEqual(store.cut(), (2, 3))
        store.tie(0, 1)
        self.assertEqual((changes(store), store.records()), ([(4, 0, [])], {0: (5, 1), 1: (6, None)}))

    def test_slots_made_anew(self):
        store = made((1, 1), 5, 6)
        store.drop(1)
        store.make(7)
        store.tie(0, 1)
        # change 3 made the record that is there now
        self.assertEqual(changes(store), [(0, 0, []), (1, 1, []), (2, 1, [1]), (3, 1, [2]), (4, 0, [0, 3])])

    def test_the_same_tie_makes_no_change(self):
        store = made((1, 1), 5, 6)
        store.tie(0, 1)
        before = state(store)
        store.tie(0, 1)
        self.assertEqual(state(store), before)

    def test_errors(self):
        store = made((2, 1), 5, 6)
        before = state(store)
        for thing in odd_things() + [2, 3, [0], (0,), "0", {0: 0}]:
            for other in (0, 1, thing):
                with self.assertRaises(NoRecord):
                    store.tie(thing, other)
            with self.assertRaises(NoRecord):
                store.tie(0, thing)
        with self.assertRaises(NoRecord):
            store.tie(2, 2)
        with self.assertRaises(SameRecord):
            store.tie(1, 1)
        self.assertEqual(state(store), before)


class Untie(unittest.TestCase):
    def test_it_needs_nothing_but_what_its_field_needs(self):
        store = made((1, 1), 5, 6)
        store.tie(0, 1)
        self.assertIsNone(store.untie(0))
        self.assertEqual((store.records()[0], changes(store)[3:]), ((5, None), [(3, 0, [2])]))
        store.flush()
        store.tie(0, 1)
        store.flush()
        store.untie(0)
        self.assertEqual(changes(store), [(5, 0, [])])

    def test_no_tie_makes_no_change(self):
        store = made((1, 1), 5, 6)
        before = state(store)
        store.untie(1)
        self.assertEqual(state(store), before)

    def test_no_record(self):
        store = made((2, 1), 5)
        for thing in odd_things() + [1, 2, 3, [0], (0,), "0"]:
            with self.assertRaises(NoRecord):
                store.untie(thing)


class Drop(unittest.TestCase):
    def test_a_record_without_ties(self):
        store = made((1, 1), 5, 6)
        self.assertIsNone(store.drop(0))
        self.assertEqual((store.records(), changes(store)[2:]), ({1: (6, None)}, [(2, 0, [0])]))

    def test_its_tie_then_its_word(self):
        store = made((1, 1), 5, 6)
        store.tie(0, 1)
        store.drop(0)
        self.assertEqual(changes(store)[2:], [(2, 0, [0, 1]), (3, 0, [2]), (4, 0, [0, 3])])
        self.assertEqual((store.cache().seen(0), store.records()), ((0, 0), {1: (6, None)}))

    def test_the_word_needs_the_last_change_of_the_tie(self):
        store = made((1, 1), 5, 6)
        store.tie(0, 1)
        store.untie(0)
        store.drop(0)
        self.assertEqual(changes(store)[3:], [(3, 0, [2]), (4, 0, [0, 3])])

    def test_the_word_needs_all_that_took_away_a_tie_to_the_slot(self):
        store = made((1,) * 5, 1, 2, 3, 4, 5)
        for slot in (1, 2, 3):
            store.tie(slot, 0)
        store.tie(1, 4)
        store.untie(2)
        store.drop(3)
        # by tie, by untie, and by the drop of the record that was tied: changes 8, 9 and 10
        store.drop(0)
        self.assertEqual(changes(store)[8:], [
            (8, 1, [1, 4, 5]), (9, 2, [6]), (10, 3, [7]), (11, 3, [3, 10]), (12, 0, [0, 8, 9, 10]),
        ])

    def test_ties_that_were_taken_away_from_an_elder_record_too(self):
        store = made((1, 1), 5, 6)
        store.tie(1, 0)
        store.untie(1)
        store.drop(0)
        store.make(7)
        store.drop(0)
        self.assertEqual(changes(store)[3:], [(3, 1, [2]), (4, 0, [0, 3]), (5, 0, [4]), (6, 0, [3, 5])])

    def test_as_far_as_it_waits(self):
        store = made((1, 1), 5, 6)
        store.tie(1, 0)
        store.untie(1)
        store.flush()
        store.drop(0)
        self.assertEqual(changes(store), [(4, 0, [])])

    def test_a_tie_that_is_back_behind_a_cut(self):
        store = made((1, 1), 5, 6)
        store.tie(1, 0)
        store.flush()
        store.untie(1)
        store.cut()
        with self.assertRaises(Tied) as caught:
            store.drop(0)
        self.assertEqual(caught.exception.other, 1)
        store.untie(1)
        store.drop(0)
        self.assertEqual(changes(store), [(4, 1, []), (5, 0, [4])])

    def test_tied(self):
        store = made((1,) * 4, 1, 2, 3, 4)
        store.tie(3, 0)
        store.tie(2, 0)
        store.tie(0, 1)
        before = state(store)
        with self.assertRaises(Tied) as caught:
            store.drop(0)
        self.assertEqual(caught.exception.other, 2)
        self.assertEqual(state(store), before)
        store.untie(2)
        with self.assertRaises(Tied) as caught:
            store.drop(0)
        self.assertEqual(caught.exception.other, 3)

    def test_no_record(self):
        store = made((2, 1), 5)
        store.make(6)
        store.drop(1)
        for thing in odd_things() + [1, 2, 3, [0], (0,), "0", deep(lambda k: {0: k}, 40)]:
            with self.assertRaises(NoRecord):
                store.drop(thing)
            with self.assertRaises(NoRecord):
                store.ties_to(thing)

    def test_two_that_are_tied_to_each_other(self):
        store = made((1, 1), 5, 6)
        store.tie(0, 1)
        store.tie(1, 0)
        for slot, other in ((0, 1), (1, 0)):
            with self.assertRaises(Tied) as caught:
                store.drop(slot)
            self.assertEqual(caught.exception.other, other)


class TheCache(unittest.TestCase):
    def test_it_is_the_cache_that_is_led(self):
        store = Records((1, 1))
        cache = store.cache()
        store.make(5)
        self.assertEqual((cache.waiting(), cache.seen(0), cache.book()[0]), ((0,), (5, 0), Book((0,), ())))
        self.assertEqual(store.cache().last(0, 0), 0)


if __name__ == "__main__":
    unittest.main()
