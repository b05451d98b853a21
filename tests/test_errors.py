"""0.3: the error classes and their fields."""

import unittest

import ripewaves.errors
from ripewaves.books import Book
from ripewaves.errors import WaveError
from oracle import odd_things

PLAIN = [
    "NoChange", "NoLot", "NoBlock", "NoStanding", "SameBlock", "BadSizes", "NoField", "NoWorth", "NoNeeds",
    "NotWaiting", "NoNumbers", "NotTwo", "NoNumber", "NoOrder", "NoRow", "NoRule", "BadBlocks", "NotWilling",
    "NoLog", "BadSlots", "NoWord", "Full", "NoRecord", "SameRecord", "NoSlot", "NoLine", "NoLines", "KnownNeed",
    "InRing", "NoNeed", "NothingDone",
]
FIELDS = {
    "BadBook": "part", "RingApart": "lot", "BadRow": "index", "TooMany": "most", "NotRipe": "block",
    "Late": "triple", "Needed": "other", "Tied": "other", "BadText": "line", "BadTale": "line",
    "BadList": "which", "BadWriter": "row",
}


class Errors(unittest.TestCase):
    def test_wave_error_is_a_value_error(self):
        self.assertEqual(WaveError.__bases__, (ValueError,))

    def test_all_derive_directly_from_wave_error(self):
        for name in PLAIN + list(FIELDS):
            with self.subTest(name):
                self.assertEqual(getattr(ripewaves.errors, name).__bases__, (WaveError,))

    def test_they_stand_in_their_file_under_their_names(self):
        for name in ["WaveError"] + PLAIN + list(FIELDS):
            with self.subTest(name):
                self.assertEqual(getattr(ripewaves.errors, name).__module__, "ripewaves.errors")
                self.assertEqual(getattr(ripewaves.errors, name).__name__, name)

    def test_no_two_are_one_class(self):
        classes = {getattr(ripewaves.errors, name) for name in PLAIN + list(FIELDS)}
        self.assertEqual(len(classes), 43)

    def test_those_without_fields_are_made_with_nothing(self):
        for name in PLAIN:
            with self.subTest(name):
                error = getattr(ripewaves.errors, name)()
                self.assertIsInstance(error, WaveError)
                self.assertEqual(vars(error), {})

    def test_each_field_is_what_the_error_was_made_with(self):
        things = odd_things() + [0, 1, (), (0, 1), 2000, 10 ** 60, 1.5, {1, 2}, Book((0, 1, 1), ((1, 0),))]
        for name, field in FIELDS.items():
            for thing in things:
                error = getattr(ripewaves.errors, name)(thing)
                self.assertIs(getattr(error, field), thing)
                self.assertEqual(list(vars(error)), [field])

    def test_the_field_is_asked_for(self):
        for name in FIELDS:
            with self.subTest(name), self.assertRaises(TypeError):
                getattr(ripewaves.errors, name)()

    def test_each_is_caught_alone(self):
        for name in PLAIN + list(FIELDS):
            thing = (0,) if name in FIELDS else ()
            for other in PLAIN + list(FIELDS):
                if other != name:
                    error = getattr(ripewaves.errors, name)(*thing)
                    self.assertNotIsInstance(error, getattr(ripewaves.errors, other))


if __name__ == "__main__":
    unittest.main()
