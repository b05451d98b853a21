"""6.2: mirrors of two lists, rows of unlike lengths, how many lists have mirrors with one."""

import unittest
from itertools import combinations

from ripewaves.errors import BadList, NoNumber, TooMany
from ripewaves.lists import is_mirrors, list_parting, lists_book, many_even, mirrors
from ripewaves.standings import is_willing
from oracle import odd_things, willing_rows
from test_lists import lists_of, plain_book, plain_meetings, small_pairs, thrown_pairs


def plain_meets(one, other, thing):
    """The pairs at which ascending numbers meet if they are mirrors, else None."""
    pairs = set()
    for k, p in enumerate(thing):
        if p < k or p >= len(one) or p >= len(other) or list(reversed(one[k:p + 1])) != list(other[k:p + 1]):
            return None
        pairs |= {(i, j) for i in range(k, p + 1) for j in range(k, p + 1) if i + j == k + p}
    return pairs


def all_ascending(bound):
    return [thing for size in range(bound + 1) for thing in combinations(range(bound), size)]


def plain_mirrors(one, other):
    """All mirrors at which just all meetings lie: there is one at most."""
    met = set(plain_meetings(one, other))
    return [thing for thing in all_ascending(max(len(one), len(other)) + 1) if plain_meets(one, other, thing) == met]


class Mirrors(unittest.TestCase):
    def test_ordinary(self):
        self.assertEqual(mirrors((0, 1, 2), (2, 1, 0)), (2,))
        self.assertEqual(mirrors((0, 1), (0, 1)), (0, 1))
        self.assertEqual(mirrors((0, 1), (2, 3)), ())
        self.assertIsNone(mirrors((0, 1), (1, 2)))
        self.assertEqual(mirrors((), ()), ())
        self.assertEqual(mirrors((), (1, 2)), ())
        self.assertEqual(mirrors((1, 2), ()), ())

    def test_several(self):
        self.assertEqual(mirrors((0, 1, 0), (1, 0, 1)), (1, 2))
        self.assertEqual(mirrors((0, 1, 0, 1), (1, 0, 1, 0)), (1, 2, 3))
        self.assertEqual(mirrors((0, 1, 2, 5), (2, 1, 0, 6)), (2,))
        self.assertEqual(mirrors((3, 0, 1), (3, 1, 0)), (0, 2))

    def test_against_all_ascending_tuples(self):
        some = none = 0
        for one, other in small_pairs() + thrown_pairs(131, 60, 6, 3) + thrown_pairs(132, 60, 6, 2):
            found = plain_mirrors(one, other)
            self.assertLess(len(found), 2)
            self.assertEqual(mirrors(one, other), found[0] if found else None)
            some += len(found) == 1 and found != [()]
            none += not found
        self.assertGreater(min(some, none), 200)

    def test_the_fact_of_lists(self):
        for one, other in small_pairs() + thrown_pairs(133, 40, 6, 3):
            lengths = {len(row) for row in willing_rows(plain_book(one, other))}
            self.assertEqual(mirrors(one, other) is not None, len(lengths) == 1)

    def test_lists_of_a_hundred_items(self):
        row = tuple((k * k + k // 2) % 50 for k in range(100))
        row = tuple(item for k, item in enumerate(row) if k == 0 or item != row[k - 1])
        self.assertEqual(mirrors(row, row), tuple(range(len(row))))
        back = (0, 1) * 50
        self.assertEqual(mirrors(back, back[::-1]), tuple(range(1, 100)))
        self.assertIs(is_mirrors(back, back[::-1], tuple(range(1, 100))), True)
        self.assertIs(is_mirrors(back, back[::-1], tuple(range(1, 99))), False)
        whole = tuple(range(50))
        self.assertEqual(mirrors(whole, whole[::-1]), (49,))
        self.assertIs(is_mirrors(whole, whole[::-1], (49,)), True)


class IsMirrors(unittest.TestCase):
    def test_against_all_ascending_tuples(self):
        for one, other in small_pairs()[::3] + thrown_pairs(134, 40, 6, 3) + thrown_pairs(135, 40, 6, 2):
            right = plain_mirrors(one, other)
            for thing in all_ascending(max(len(one), len(other)) + 1):
                self.assertIs(is_mirrors(one, other, thing), thing in right)

    def test_mirrors_at_which_not_all_meetings_lie(self):
        self.assertIs(is_mirrors((0, 1), (0, 1), (0, 1)), True)
        self.assertIs(is_mirrors((0, 1), (0, 1), (0,)), False)
        self.assertIs(is_mirrors((0, 1), (0, 1), ()), False)
        self.assertIs(is_mirrors((0, 1), (1, 2), ()), False)

    def test_mirrors_that_meet_elsewhere_too(self):
        # items 0 to 2 and 1 to 2 are mirrored, but the first meeting keeps the rest away
        self.assertIs(is_mirrors((0, 1, 0), (0, 1, 0), (0, 1, 2)), True)
        self.assertIs(is_mirrors((0, 1, 0), (0, 1, 0), (2,)), False)
        self.assertIs(is_mirrors((0, 1, 0), (0, 1, 0), (0, 2)), False)

    def test_things_of_any_kind(self):
        wrong = [
            [2], 2, "2", (True,), (2, 2), (2, 1), (-1,), (3,), (2, 3), ((2,),), ("2",), (None,), {2: True}, (2, None),
            (0, 1, 2), (1, 2), None, range(2, 3), (10 ** 59,), [(0, 2), (1, 1), (2, 0)], ((0, 2), (1, 1), (2, 0)),
        ]
        for thing in odd_things() + wrong + [()]:
            self.assertIs(is_mirrors((0, 1, 2), (2, 1, 0), thing), False)
        for thing in odd_things() + wrong:
            self.assertIs(is_mirrors((), (), thing), False)
            self.assertIs(is_mirrors((0, 1), (2, 3), thing), False)
            self.assertIs(is_mirrors((0, 1), (1, 2), thing), False)
        self.assertIs(is_mirrors((), (), ()), True)
        self.assertIs(is_mirrors((0,), (0,), (0,)), True)
        self.assertIs(is_mirrors((0,), (0,), (False,)), False)


class ListParting(unittest.TestCase):
    def test_ordinary(self):
        shorter, longer = list_parting((0, 1), (1, 2))
        self.assertEqual(shorter, (0, 1, 2))
        self.assertIn(longer, ((0, 1, 1, 2), (1, 0, 1, 2), (1, 0, 2, 1), (1, 2, 0, 1)))
        for one, other in (((), ()), ((0, 1, 2), (2, 1, 0)), ((0, 1), (2, 3)), ((0, 1), (0, 1))):
            self.assertIsNone(list_parting(one, other))

    def test_none_just_where_there_are_mirrors(self):
        for one, other in small_pairs() + thrown_pairs(136, 60, 40, 4) + thrown_pairs(137, 30, 100, 50):
            pair = list_parting(one, other)
            self.assertEqual(pair is None, mirrors(one, other) is not None)
            if pair is not None:
                self.assertIs(type(pair), tuple)
                shorter, longer = pair
                self.assertLess(len(shorter), len(longer))
                book = lists_book(one, other)
                self.assertIs(is_willing(book, (), shorter), True)
                self.assertIs(is_willing(book, (), longer), True)


class ManyEven(unittest.TestCase):
    def test_ordinary(self):
        self.assertEqual(many_even((0, 1), 2, 2), 2)
        self.assertEqual(many_even((0, 1, 2), 0, 9), 1)
        self.assertEqual(many_even((), 3, 4), 36)
        self.assertEqual(many_even((), 1, 50), 50)

    def test_against_all_lists_counted(self):
        for one in ((), (0,), (3,), (0, 1), (1, 0, 2), (0, 1, 0, 2), (2, 1, 0, 1, 2)):
            for size in range(5):
                for letters in range(5):
                    want = 0
                    for other in lists_of(size, letters):
                        want += len(plain_mirrors(one, other))
                    self.assertEqual(many_even(one, size, letters), want)

    def test_sizes_and_letters_at_the_edges(self):
        for one in ((), (0,), (5, 6, 5)):
            for letters in (0, 1, 2, 50):
                self.assertEqual(many_even(one, 0, letters), 1)
                want = [k for k in range(letters) if mirrors(one, (k,)) is not None]
                self.assertEqual(many_even(one, 1, letters), len(want))
            for size in (1, 2, 100, 10 ** 59):
                self.assertEqual(many_even(one, size, 0), 0)
            for size in (2, 3, 101, 10 ** 59):
                self.assertEqual(many_even(one, size, 1), 0)

    def test_no_number_for_the_size_then_for_the_letters(self):
        for thing in odd_things() + [(), (0,), "1", [1]]:
            if not (isinstance(thing, int) and not isinstance(thing, bool) and thing >= 0):
                for letters in (0, 2, 51, None, thing):
                    with self.assertRaises(NoNumber):
                        many_even((0, 1), thing, letters)
            for size in (0, 1, 13, 10 ** 59):
                with self.assertRaises(NoNumber):
                    many_even((0, 1), size, thing)
        for letters in (51, 100, -1, 10 ** 59, True):
            for size in (0, 1, 13, 10 ** 59):
                with self.assertRaises(NoNumber):
                    many_even((), size, letters)
        with self.assertRaises(BadList):
            many_even((0, 0), None, None)

    def test_4096_are_let(self):
        for size, letters in ((12, 2), (6, 4), (4, 8), (3, 16), (2, 50), (7, 3), (1, 50)):
            self.assertEqual(many_even((), size, letters), letters * (letters - 1) ** (size - 1))
        want = [row for row in lists_of(12, 2) if mirrors((0, 1), row) is not None]
        self.assertEqual(many_even((0, 1), 12, 2), len(want))

    def test_too_many(self):
        for size, letters in ((13, 2), (8, 3), (7, 4), (5, 8), (4, 9), (3, 17), (3, 50), (4, 16), (10 ** 59, 2),
                              (10 ** 59, 50), (99, 49)):
            with self.assertRaises(TooMany) as caught:
                many_even((0, 1), size, letters)
            self.assertEqual(caught.exception.most, 4096)

    def test_a_list_of_a_hundred_items(self):
        one = (0, 1, 2, 1) * 25
        for size, letters in ((2, 6), (3, 4)):
            want = [row for row in lists_of(size, letters) if mirrors(one, row) is not None]
            self.assertEqual(many_even(one, size, letters), len(want))


if __name__ == "__main__":
    unittest.main()
