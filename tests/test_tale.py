"""13.2: tales of lines, and their texts."""

import unittest

from ripewaves.errors import BadSlots, BadTale, NoLines, WaveError
from ripewaves.shell import Shell, read_tale, tale, tale_text
from oracle import Dice, deep, odd_things
from test_shell import FORMS, drawn_line

WRONG_LINES = [
    thing for thing in odd_things() if thing not in ([], ("0",))
] + ["list", b"list", {"list": 0}, ["list", None], ("list", 5), ["list", ["list"]], (b"list",), [True], {}, None, 0,
     ["list"] * 100 + [0], (("list",),), [deep(lambda k: [k], 39)]]


def plain_tale(slots, lines):
    shell = Shell(slots)
    told = []
    for line in lines:
        try:
            told.append(shell.tell(line))
        except WaveError as error:
            told.append("(" + type(error).__name__ + ")")
    return told


class Tale(unittest.TestCase):
    def test_drawn_lines(self):
        for seed in range(20):
            slots = [(1,), (1, 1), (2, 1), (1, 1, 1)][seed % 4]
            dice = Dice(1800 + seed)
            lines = [drawn_line(dice, slots) for _ in range(60)]
            told = plain_tale(slots, lines)
            self.assertEqual(tale(slots, lines), told)
            self.assertEqual(tale(slots, tuple(lines)), told)
            self.assertIs(type(tale(slots, tuple(lines))), list)

    def test_the_names_of_errors(self):
        lines = ["make 5", "make 6", "make 0", "tie 0 0", "tie 0 1", "drop 1", "put 7 1", "make 7", "show 9", "write 9",
                 "list ", "", "list", "settle 5", "untie 0", "drop 1", "list"]
        self.assertEqual(tale((1, 1), lines), [
            "0", "1", "(NoWord)", "(SameRecord)", "ok", "(Tied)", "(NoRecord)", "(Full)", "(NoSlot)", "(NoBlock)",
            "(NoLine)", "(NoLine)", "0 1", "(NoSlot)", "ok", "ok", "0",
        ])

    def test_too_many(self):
        lines = ["make 1"] * 8
        for pair in (0, 2, 4, 6):
            lines += [f"tie {pair} {pair + 1}", f"untie {pair}", f"drop {pair + 1}", "make 2"] * 3
        told = tale((1,) * 8, lines + ["even", "fewest", "settle 0", "waits"])
        self.assertEqual(told[-4:], ["(TooMany)", "(TooMany)", "(TooMany)", str(len(lines))])

    def test_the_empty_tale(self):
        self.assertEqual((tale((1,), []), tale((1,), ())), ([], []))

    def test_each_tale_begins_anew(self):
        self.assertEqual(tale((1,), ["make 5", "list"]), ["0", "0"])
        self.assertEqual(tale((1,), ["list"]), ["none"])

    def test_bad_slots_ahead_of_no_lines(self):
        for thing in odd_things() + [(), [1], (0,), (11,), (True,)]:
            for lines in ([], None, "list", thing):
                with self.assertRaises(BadSlots):
                    tale(thing, lines)

    def test_no_lines(self):
        for thing in WRONG_LINES:
            with self.assertRaises(NoLines):
                tale((1,), thing)

    def test_lines_are_left(self):
        lines = ["make 5", "list"]
        tale((1,), lines)
        tale_text(lines)
        self.assertEqual(lines, ["make 5", "list"])


class Texts(unittest.TestCase):
    def test_there_and_back(self):
        for seed in range(20):
            dice = Dice(1900 + seed)
            lines = [drawn_line(dice, (2, 1)) for _ in range(30)]
            right = [line for line in lines if line.count(" ") == FORMS[line.split(" ")[0]]]
            text = tale_text(right)
            self.assertEqual(text, "".join(line + "\n" for line in right))
            self.assertEqual(tale_text(tuple(right)), text)
            self.assertEqual(read_tale(text), right)
            self.assertEqual(tale_text(read_tale(text)), text)

    def test_each_form(self):
        lines = [" ".join([word] + ["9" * 31] * many) for word, many in FORMS.items()]
        self.assertEqual(read_tale(tale_text(lines)), lines)

    def test_empty(self):
        self.assertEqual((tale_text([]), tale_text(()), read_tale("")), ("", "", []))

    def test_lines_of_any_form_have_a_text(self):
        self.assertEqual(tale_text(["", "no line", "a\nb"]), "\nno line\na\nb\n")

    def test_no_lines(self):
        for thing in WRONG_LINES:
            with self.assertRaises(NoLines):
                tale_text(thing)
        for thing in odd_things() + [["list"], ("list\n",), b"list\n", {"list\n": 0}, 0]:
            if not isinstance(thing, str):
                with self.assertRaises(NoLines):
                    read_tale(thing)

    def bad(self, text, line):
        with self.assertRaises(BadTale) as caught:
            read_tale(text)
        self.assertEqual(caught.exception.line, line, text)

    def test_the_first_line_that_has_no_form(self):
        self.bad("\n", 1)
        self.bad("\n\n", 1)
        self.bad("list\n\n", 2)
        self.bad("nothing\n", 1)
        self.bad("list\nmake 01\nnothing\n", 2)
        self.bad("list\nmake 1\nList\ncut\n", 3)
        self.bad("list\nmake 1 \n", 2)
        self.bad("make " + "1" * 32 + "\n", 1)
        self.bad("list\n tie 1 2\n", 2)

    def test_what_stands_behind_the_last_line_feed(self):
        self.bad("list", 1)
        self.bad("nothing", 1)
        self.bad("list\ncut\nlist", 3)
        self.bad("list\ncut\nnothing", 3)
        self.bad("list\ncut\n ", 3)
        # a wrong line ahead is the first
        self.bad("list\nnothing\ncut", 2)

    def test_what_is_returned_is_new(self):
        first = read_tale("list\n")
        first.append(1)
        self.assertEqual(read_tale("list\n"), ["list"])
        told = tale((1,), ["list"])
        told.clear()
        self.assertEqual(tale((1,), ["list"]), ["none"])


if __name__ == "__main__":
    unittest.main()
