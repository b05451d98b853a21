"""A shell that leads a store of records by lines, and tales of such lines."""

from ripewaves.errors import BadTale, NoLine, NoLines, NoSlot, WaveError
from ripewaves.even import fewest, is_even
from ripewaves.lots import is_number_below
from ripewaves.reading import numbers_of
from ripewaves.records import Records

MOST_FIGURES = 31


def row_told(numbers):
    """Some numbers with blanks between, or "none"."""
    return " ".join([str(number) for number in numbers]) or "none"


def record_told(store, table, slot):
    """What is in a slot, by the dict of the records."""
    if not is_number_below(len(store.places), slot):
        raise NoSlot()
    if slot not in table:
        return "free"
    word, tie = table[slot]
    return str(word) if tie is None else f"{word} {tie}"


def tell_make(store, word):
    """Make a record."""
    return str(store.make(word))


def tell_put(store, slot, word):
    """Put another word."""
    store.put(slot, word)
    return "ok"


def tell_tie(store, slot, other):
    """Tie a record to another one."""
    store.tie(slot, other)
    return "ok"


def tell_untie(store, slot):
    """Untie a record."""
    store.untie(slot)
    return "ok"


def tell_drop(store, slot):
    """Drop a record."""
    store.drop(slot)
    return "ok"


def tell_write(store, block):
    """Write a block: how many changes came."""
    return str(len(store.write(block)))


def tell_flush(store):
    """Write until nothing waits: the row."""
    return row_told(store.flush())


def tell_settle(store, slot):
    """Write until all that waits of a slot is there: the row."""
    return row_told(store.settle(slot))


def tell_cut(store):
    """Lose what waits: how many changes are gone."""
    return str(len(store.cut()))


def tell_show(store, slot):
    """What is in a slot in the cache."""
    return record_told(store, store.records(), slot)


def tell_disk(store, slot):
    """What is in a slot on the disk."""
    return record_told(store, store.on_disk(), slot)


def tell_list(store):
    """The slots of the records."""
    return row_told(sorted(store.records()))


def tell_ripe(store):
    """The ripe blocks."""
    return row_told(store.cache().ripe())


def tell_waits(store):
    """How many changes wait."""
    return str(len(store.cache().waiting()))


def tell_writes(store):
    """How many writes there were."""
    return str(store.cache().writes())


def tell_even(store):
    """Whether the book of what waits is even."""
    return "yes" if is_even(store.cache().book()[0]) else "no"


def tell_fewest(store):
    """The least number of writes of the book of what waits."""
    return str(fewest(store.cache().book()[0]))


# for each first word how many numbers stand behind it, and what does such a line
COUNTS = {
    "make": 1, "put": 2, "tie": 2, "untie": 1, "drop": 1, "write": 1, "flush": 0, "settle": 1, "cut": 0,
    "show": 1, "disk": 1, "list": 0, "ripe": 0, "waits": 0, "writes": 0, "even": 0, "fewest": 0,
}
TELLERS = {
    "make": tell_make, "put": tell_put, "tie": tell_tie, "untie": tell_untie, "drop": tell_drop,
    "write": tell_write, "flush": tell_flush, "settle": tell_settle, "cut": tell_cut, "show": tell_show,
    "disk": tell_disk, "list": tell_list, "ripe": tell_ripe, "waits": tell_waits, "writes": tell_writes,
    "even": tell_even, "fewest": tell_fewest,
}


def line_parts(thing):
    """The first word of a line and the list of its numbers, or None for what is no line."""
    if not isinstance(thing, str):
        return None
    words = thing.split(" ")
    word = words[0]
    if word not in COUNTS or len(words) != COUNTS[word] + 1:
        return None
    numbers = numbers_of(words[1:], MOST_FIGURES)
    return None if numbers is None else (word, numbers)


class Shell:
    """A shell over a new store of records."""

    def __init__(self, slots):
        self.store = Records(slots)

    def tell(self, line):
        """Do what a line says; returns the answer."""
        parts = line_parts(line)
        if parts is None:
            raise NoLine()
        word, numbers = parts
        teller = TELLERS[word]
        return teller(self.store, *numbers)


def check_lines(lines):
    """Raise NoLines for what is no list or tuple of strings."""
    if not isinstance(lines, (list, tuple)) or not all([isinstance(line, str) for line in lines]):
        raise NoLines()


def answer(shell, line):
    """What a shell tells to a line, or the name of the error's class in parentheses."""
    try:
        return shell.tell(line)
    except WaveError as error:
        name = type(error).__name__
        return f"({name})"


def tale(slots, lines):
    """The list of what a new shell tells to some lines."""
    shell = Shell(slots)
    check_lines(lines)
    return [answer(shell, line) for line in lines]


def tale_text(lines):
    """The lines, each closed by a line feed."""
    check_lines(lines)
    return "".join([line + "\n" for line in lines])


def read_tale(text):
    """The list of the lines of a text."""
    if not isinstance(text, str):
        raise NoLines()
    lines = text.split("\n")
    for at in range(len(lines) - 1):
        if line_parts(lines[at]) is None:
            raise BadTale(at + 1)
    # what stands behind the last line feed is no closed line, whatever form it has
    if lines[-1] != "":
        raise BadTale(len(lines))
    return lines[:-1]
