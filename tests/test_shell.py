"""13.1: a shell that leads a store by lines."""

import re
import unittest

from ripewaves.errors import (
    BadSlots, Full, NoBlock, NoLine, NoRecord, NoSlot, NoWord, SameRecord, Tied, TooMany, WaveError,
)
from ripewaves.even import fewest, is_even
from ripewaves.records import Records
from ripewaves.shell import Shell
from oracle import Dice, odd_things
from test_store_deeds import told

FORMS = {
    "make": 1, "put": 2, "tie": 2, "untie": 1, "drop": 1, "write": 1, "flush": 0, "settle": 1, "cut": 0, "show": 1,
    "disk": 1, "list": 0, "ripe": 0, "waits": 0, "writes": 0, "even": 0, "fewest": 0,
}
NUMBER = "(0|[1-9][0-9]{0,30})"
PATTERNS = {word: re.compile(word + (" " + NUMBER) * many) for word, many in FORMS.items()}


def told_lines(shell, *lines):
    return [shell.tell(line) for line in lines]


def joined(numbers):
    return " ".join(map(str, numbers)) if numbers else "none"


def plain_tell(store, line):
    """The answer to a line by the words of the document, done with a store."""
    word = line.split(" ")[0]
    if word not in FORMS or not PATTERNS[word].fullmatch(line):
        raise NoLine()
    numbers = [int(number) for number in line.split(" ")[1:]]
    cache = store.cache()
    if word == "make":
        return str(store.make(*numbers))
    if word in ("put", "tie", "untie", "drop"):
        getattr(store, word)(*numbers)
        return "ok"
    if word in ("write", "cut"):
        return str(len(getattr(store, word)(*numbers)))
    if word in ("flush", "settle"):
        return joined(getattr(store, word)(*numbers))
    if word in ("show", "disk"):
        if numbers[0] >= sum(store.slots):
            raise NoSlot()
        word, tie = (store.records() if word == "show" else store.on_disk()).get(numbers[0], (0, None))
        return "free" if word == 0 else f"{word}" if tie is None else f"{word} {tie}"
    return {
        "list": lambda: joined(sorted(store.records())), "ripe": lambda: joined(cache.ripe()),
        "waits": lambda: str(len(cache.waiting())), "writes": lambda: str(cache.writes()),
        "even": lambda: "yes" if is_even(cache.book()[0]) else "no", "fewest": lambda: str(fewest(cache.book()[0])),
    }[word]()


def drawn_line(dice, slots):
    """A line that has a form, or now and then none."""
    words = list(FORMS) + ["make", "tie", "tie", "write", "write"]
    word = words[dice.below(len(words))]
    numbers = [str(dice.below(sum(slots) + 1)) for _ in range(FORMS[word])]
    if dice.below(30) == 0:
        return " ".join([word] + numbers + ["1"])
    return " ".join([word] + numbers)


def error_of(call, *given):
    try:
        return call(*given)
    except WaveError as error:
        return type(error), vars(error)


class Forms(unittest.TestCase):
    def test_each_form_and_its_answer(self):
        shell = Shell((1, 2))
        got = told_lines(
            shell, "list", "ripe", "flush", "waits", "writes", "even", "fewest", "cut", "settle 2", "make 7", "make 8",
            "make 9", "tie 0 2", "show 0", "show 1", "disk 0", "put 1 10", "waits", "ripe", "even", "fewest", "list",
            "write 0", "disk 0", "show 0", "write 0", "writes", "settle 0", "disk 0", "disk 1", "untie 0", "show 0",
            "disk 0", "drop 2", "show 2", "disk 2", "list", "cut", "show 2", "show 0", "untie 0", "flush", "disk 0",
        )
        self.assertEqual(got, [
            "none", "none", "none", "0", "0", "yes", "0", "0", "none", "0", "1",
            "2", "ok", "7 2", "8", "free", "ok", "5", "0 1", "no", "2", "0 1 2",
            "1", "7", "7 2", "0", "2", "1 0", "7 2", "10", "ok", "7",
            "7 2", "ok", "free", "9", "0 1", "2", "9", "7 2", "ok", "0", "7",
        ])

    def test_the_row_with_blanks_between(self):
        shell = Shell((1, 1, 1))
        told_lines(shell, "make 1", "make 2", "make 3")
        self.assertEqual(told_lines(shell, "ripe", "flush", "ripe", "list"), ["0 1 2", "0 1 2", "none", "0 1 2"])

    def test_against_plain_answers(self):
        for seed in range(30):
            slots = [(1,), (1, 1), (2, 1), (1, 1, 1), (2, 2), (3, 1, 2)][seed % 6]
            dice = Dice(1700 + seed)
            shell, store = Shell(slots), Records(slots)
            for _ in range(60):
                line = drawn_line(dice, slots)
                got, wanted = error_of(shell.tell, line), error_of(plain_tell, store, line)
                self.assertEqual(got, wanted, (seed, line))
                if isinstance(got, str):
                    self.assertIs(type(got), str)
                self.assertEqual(told(shell.store), told(store))

    def test_even(self):
        shell = Shell((1, 1))
        self.assertEqual(shell.tell("even"), "yes")
        told_lines(shell, "make 1", "make 2", "tie 0 1")
        self.assertEqual(told_lines(shell, "even", "fewest"), ["no", "2"])

    def test_show_and_disk(self):
        shell = Shell((2,))
        self.assertEqual(told_lines(shell, "show 0", "disk 1"), ["free", "free"])
        told_lines(shell, "make 1000000000000000000000000000000", "make 5", "tie 1 0", "write 0", "drop 1")
        self.assertEqual(told_lines(shell, "show 0", "disk 0"), ["1" + "0" * 30] * 2)
        self.assertEqual(told_lines(shell, "show 1", "disk 1"), ["free", "5 0"])
        for line in ("show 2", "disk 2", "show 9999999999999999999999999999999", "disk 10"):
            with self.assertRaises(NoSlot):
                shell.tell(line)


class NoLines(unittest.TestCase):
    def setUp(self):
        self.shell = Shell((2, 1))
        told_lines(self.shell, "make 5", "make 6", "tie 0 1", "write 0", "put 1 7")
        self.before = told(self.shell.store)

    def no_line(self, thing):
        with self.assertRaises(NoLine):
            self.shell.tell(thing)
        self.assertEqual(told(self.shell.store), self.before)

    def test_wrong_numbers_of_words(self):
        for word, many in FORMS.items():
            for other in range(5):
                if other != many:
                    self.no_line(" ".join([word] + ["1"] * other))

    def test_wrong_numbers(self):
        for number in ("", "00", "01", "-1", "+1", "1.", "1.0", "0x1", "1_0", "a", "one", " 1", "1 ", "1\n", "\n1", "-0",
                       "1" * 32, "9" * 40, "0" * 31, "true", "#", "~", "'1'", "1e3"):
            for word, many in FORMS.items():
                for at in range(many):
                    self.no_line(" ".join([word] + ["1"] * at + [number] + ["1"] * (many - at - 1)))

    def test_numbers_of_thirty_one_figures(self):
        for line, error in (("make " + "9" * 31, NoWord), ("put 0 " + "9" * 31, NoWord), ("show " + "9" * 31, NoSlot),
                            ("write " + "9" * 31, NoBlock), ("untie " + "1" * 31, NoRecord),
                            ("settle " + "9" * 31, NoSlot), ("make 1" + "0" * 29 + "1", NoWord)):
            with self.assertRaises(error):
                self.shell.tell(line)
            self.no_line(line + "0")
        self.assertEqual(self.shell.tell("make 1" + "0" * 30), "2")

    def test_blanks_capitals_and_line_feeds(self):
        for line in ("list", "make 5", "tie 0 1", "cut"):
            for wrong in (" " + line, line + " ", line + "\n", "\n" + line, line.upper(), line.title(), line + "\nlist",
                          line.replace(" ", "  ") if " " in line else line + "  ", line.replace(" ", "\n") + "\n"):
                self.no_line(wrong)

    def test_other_words(self):
        for line in ("", " ", "\n", "none", "ok", "lists", "lis", "free 1", "sync 1", "copy", "tell", "records", "5",
                     "5 make", "make5", "help", "waiting", "__init__", "ties 0", "~", "make: 5", "put 0,1", "book"):
            self.no_line(line)

    def test_no_strings(self):
        for thing in odd_things() + [0, ["list"], ("list",), {"list": 0}, b"list", b"make 5", ["make", "5"]]:
            if isinstance(thing, str):
                self.assertNotIn(thing.split(" ")[0], FORMS)
            self.no_line(thing)


class Raises(unittest.TestCase):
    def test_what_the_store_raises_goes_on_and_nothing_is_changed(self):
        shell = Shell((1, 1))
        told_lines(shell, "make 5", "make 6", "tie 0 1")
        before = told(shell.store)
        for line, error in (
            ("make 7", Full), ("make 0", NoWord), ("put 0 0", NoWord), ("put 2 0", NoRecord), ("tie 0 0", SameRecord),
            ("tie 2 0", NoRecord), ("tie 0 2", NoRecord), ("untie 2", NoRecord), ("drop 1", Tied), ("drop 3", NoRecord),
            ("write 2", NoBlock), ("settle 2", NoSlot), ("show 2", NoSlot), ("disk 2", NoSlot),
        ):
            with self.assertRaises(error):
                shell.tell(line)
            self.assertEqual(told(shell.store), before)
        with self.assertRaises(Tied) as caught:
            shell.tell("drop 1")
        self.assertEqual(caught.exception.other, 0)

    def test_too_many(self):
        shell = Shell((1,) * 8)
        told_lines(shell, *["make 1"] * 8)
        for pair in (0, 2, 4, 6):
            for _ in range(3):
                told_lines(shell, f"tie {pair} {pair + 1}", f"untie {pair}", f"drop {pair + 1}", "make 2")
        before = told(shell.store)
        for line in ("even", "fewest", "settle 0"):
            with self.assertRaises(TooMany) as caught:
                shell.tell(line)
            self.assertEqual(caught.exception.most, 2000)
        self.assertEqual(told(shell.store), before)
        shell.tell("flush")
        self.assertEqual(told_lines(shell, "even", "fewest", "settle 0"), ["yes", "0", "none"])

    def test_bad_slots(self):
        for thing in odd_things() + [(), [1], (0,), (11,), (1,) * 9, (True,), 1, "1"]:
            with self.assertRaises(BadSlots):
                Shell(thing)

    def test_two_shells_are_apart(self):
        one, other = Shell((1,)), Shell((1,))
        self.assertEqual((one.tell("make 5"), one.tell("list"), other.tell("list")), ("0", "0", "none"))
        self.assertFalse(one == other)


if __name__ == "__main__":
    unittest.main()
