"""A store of records over a cache, whose ties never go astray on the disk, whatever is cut."""

from ripewaves.cache import Cache
from ripewaves.errors import BadSlots, Full, NoRecord, NoSlot, NoWord, SameRecord, Tied
from ripewaves.lots import is_integer, is_number, is_number_below

MOST_BLOCKS = 8
MOST_SLOTS = 10


class Records:
    """Records in the slots of the blocks of a cache.

    Slots are numbered through all blocks. places holds the block of each slot and the field of
    its word; its tie is the next field: 0, or one more than the slot that it leads to. born
    holds the change by which the last record of each slot was made, or None, untied the tuple
    of the changes that took away a tie to the slot; such as wait no more may be among them.

    Words and ties stand in the cache alone: so nothing must be put back by a cut.
    """

    def __init__(self, slots):
        check_slots(slots)
        self.slots = slots
        self.inner = Cache(tuple([2 * many for many in slots]))
        self.places = [(block, 2 * at) for block, many in enumerate(slots) for at in range(many)]
        self.born = [None] * len(self.places)
        self.untied = [()] * len(self.places)

    def cache(self):
        """The cache, of which others ask only what changes nothing."""
        return self.inner

    def make(self, word):
        """A new record in the least free slot; returns the slot."""
        check_word(word)
        words = [pair[0] for pair in self.pairs()]
        if 0 not in words:
            raise Full()
        slot = words.index(0)
        self.born[slot] = self.set_word(slot, word, ())
        return slot

    def put(self, slot, word):
        """A record gets another word."""
        self.check_record(slot)
        check_word(word)
        self.set_word(slot, word, ())

    def tie(self, slot, other):
        """The tie of a record leads to another one."""
        self.check_record(slot)
        self.check_record(other)
        if slot == other:
            raise SameRecord()
        self.set_tie(slot, other + 1, (self.born[slot], self.born[other]))

    def untie(self, slot):
        """The tie of a record leads nowhere."""
        self.check_record(slot)
        self.set_tie(slot, 0, ())

    def drop(self, slot):
        """A record is no more."""
        tied = self.ties_to(slot)
        if tied:
            raise Tied(tied[0])
        self.set_tie(slot, 0, ())
        block, field = self.places[slot]
        # the tie must be away on the disk ahead of its record, and so must be all ties to this
        self.set_word(slot, 0, self.untied[slot] + (self.inner.last(block, field + 1),))

    def records(self):
        """The dict from the slots of the records to pairs of the word and the slot tied to, or None."""
        return table_of(self.pairs())

    def on_disk(self):
        """Likewise what the disk has."""
        return table_of(pairs_of([self.inner.disk(block) for block in range(len(self.slots))]))

    def ties_to(self, slot):
        """The lot of the records that are tied to one."""
        self.check_record(slot)
        return tuple([other for other, pair in enumerate(self.pairs()) if pair[1] == slot + 1])

    def write(self, block):
        """Write a block; returns the lot of the changes that came."""
        return self.inner.write(block)

    def flush(self):
        """Write the least ripe block until nothing waits; returns the row."""
        return self.inner.flush()

    def cut(self):
        """Lose all that waits; returns the lot of it."""
        return self.inner.cut()

    def copy(self):
        """A store that goes on apart."""
        twin = Records(self.slots)
        twin.inner = self.inner.copy()
        twin.born = list(self.born)
        twin.untied = list(self.untied)
        return twin

    def settle(self, slot):
        """Write until all that waits of a slot is on the disk, as few writes as can be; returns the row."""
        if not is_number_below(len(self.places), slot):
            raise NoSlot()
        block, field = self.places[slot]
        # the last change of a field needs all that wait of it
        return self.inner.sync(self.still_waiting((self.inner.last(block, field), self.inner.last(block, field + 1))))

    def pairs(self):
        """The list of pairs of the word and the tie of each slot, as they stand in the cache."""
        return pairs_of([self.inner.seen(block) for block in range(len(self.slots))])

    def check_record(self, thing):
        """Raise NoRecord for what is no slot in which a record is."""
        if not is_number_below(len(self.places), thing) or self.worth(thing, 0) == 0:
            raise NoRecord()

    def worth(self, slot, at):
        """The word of a slot, or by 1 its tie, as it stands in the cache."""
        block, field = self.places[slot]
        return self.inner.seen(block)[field + at]

    def still_waiting(self, numbers):
        """The lot of those of some changes that wait; what is None is none."""
        waiting = self.inner.waiting()
        return tuple(sorted({number for number in numbers if number in waiting}))

    def set_word(self, slot, word, needs):
        """Change the word of a slot, unless it is as it should be; returns the number of the change, or None."""
        if self.worth(slot, 0) == word:
            return None
        block, field = self.places[slot]
        return self.inner.change(block, field, word, self.still_waiting(needs))

    def set_tie(self, slot, tie, needs):
        """Change the tie of a slot, unless it is as it should be, and keep what took away a tie."""
        elder = self.worth(slot, 1)
        if elder == tie:
            return
        block, field = self.places[slot]
        number = self.inner.change(block, field + 1, tie, self.still_waiting(needs))
        if elder > 0:
            self.untied[elder - 1] = self.still_waiting(self.untied[elder - 1]) + (number,)


def check_slots(slots):
    """Raise BadSlots for what is no tuple of 1 to 8 numbers from 1 to 10."""
    if not isinstance(slots, tuple) or not 1 <= len(slots) <= MOST_BLOCKS:
        raise BadSlots()
    for many in slots:
        if not is_number(many) or not 1 <= many <= MOST_SLOTS:
            raise BadSlots()


def check_word(word):
    """Raise NoWord for what is no integer from 1 to 10 ** 30."""
    if not is_integer(word) or not 1 <= word <= 10 ** 30:
        raise NoWord()


def pairs_of(rows):
    """The list of pairs of the word and the tie of each slot, by the worths of each block."""
    return [(row[at], row[at + 1]) for row in rows for at in range(0, len(row), 2)]


def table_of(pairs):
    """The dict from the slots of the records to pairs of the word and the slot tied to, or None."""
    return {slot: (word, tie - 1 if tie > 0 else None) for slot, (word, tie) in enumerate(pairs) if word != 0}
