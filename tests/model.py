"""What the tests of the cache compare with: all changes kept, everything looked up anew from its definition."""

from ripewaves.books import Book
from ripewaves.errors import Full, NoBlock, NoRecord, NoSlot, NoWord, SameRecord, Tied


class PlainCache:
    def __init__(self, sizes):
        self.sizes = sizes
        self.changes = []
        self.past = []

    def change(self, block, field, worth, needs):
        lot = set(needs)
        if self.last(block, field) is not None:
            lot.add(self.last(block, field))
        self.changes.append({"place": (block, field), "worth": worth, "needs": lot, "state": "waits"})
        return len(self.changes) - 1

    def lot(self, state):
        return tuple(number for number, change in enumerate(self.changes) if change["state"] == state)

    def waiting(self):
        return self.lot("waits")

    def last(self, block, field):
        lot = [number for number in self.waiting() if self.changes[number]["place"] == (block, field)]
        return lot[-1] if lot else None

    def coming(self, block):
        lot = {number for number in self.waiting() if self.changes[number]["place"][0] == block}
        there = set(self.lot("disk"))
        while True:
            bad = {number for number in lot if not self.changes[number]["needs"] <= there | lot}
            if not bad:
                return tuple(sorted(lot))
            lot -= bad

    def write(self, block):
        lot = self.coming(block)
        for number in lot:
            self.changes[number]["state"] = "disk"
        self.past.append((block, lot))
        return lot

    def writes(self):
        return len(self.past)

    def ripe(self):
        return tuple(block for block in range(len(self.sizes)) if self.coming(block))

    def worths(self, block, lot):
        """For each field the worth of the last of its changes in a lot."""
        row = []
        for field in range(self.sizes[block]):
            told = [change["worth"] for number, change in enumerate(self.changes)
                    if number in lot and change["place"] == (block, field)]
            row.append(told[-1] if told else 0)
        return tuple(row)

    def seen(self, block):
        return self.worths(block, self.lot("disk") + self.lot("waits"))

    def picture(self, block):
        return self.worths(block, self.lot("disk") + self.coming(block))

    def disk(self, block):
        return self.worths(block, self.lot("disk"))

    def book(self):
        lot = self.waiting()
        blocks = tuple(self.changes[number]["place"][0] for number in lot)
        needs = [(a, b) for a, n in enumerate(lot) for b, m in enumerate(lot) if m in self.changes[n]["needs"]]
        return Book(blocks, tuple(needs)), lot

    def needers(self, number):
        """What waits and needs a change, however far."""
        found = {number}
        for other in self.waiting():
            if self.changes[other]["needs"] & found:
                found.add(other)
        return sorted(found - {number})

    def drop(self, number):
        self.changes[number]["state"] = "gone"

    def sync(self, numbers):
        row = self.least_row(numbers)
        for block in row:
            self.write(block)
        return row

    def least_row(self, numbers):
        """The first of the shortest rows of ripe writes until some changes are there: rows gone through by length."""
        front = [((), self.copy())]
        seen = {front[0][1].lot("disk")}
        while True:
            for row, state in front:
                if set(numbers) <= set(state.lot("disk")):
                    return row
            onward = []
            for row, state in front:
                for block in state.ripe():
                    twin = state.copy()
                    twin.write(block)
                    if twin.lot("disk") not in seen:
                        seen.add(twin.lot("disk"))
                        onward.append((row + (block,), twin))
            front = onward

    def flush(self):
        row = []
        while self.waiting():
            row.append(self.ripe()[0])
            self.write(row[-1])
        return tuple(row)

    def cut(self):
        lot = self.waiting()
        for number in lot:
            self.drop(number)
        return lot

    def gone(self, number):
        return self.changes[number]["state"] == "gone"

    def history(self):
        return list(self.past)

    def copy(self):
        twin = PlainCache(self.sizes)
        twin.changes = [dict(change) for change in self.changes]
        twin.past = list(self.past)
        return twin


def is_plain_number(thing, below):
    return type(thing) is int and 0 <= thing < below


class PlainStore:
    """Records over a plain cache; what each change was for is kept, so that it can be told what ties lead to."""

    def __init__(self, slots):
        self.slots = slots
        self.inner = PlainCache(tuple(2 * many for many in slots))
        self.places = [(block, at) for block, many in enumerate(slots) for at in range(many)]
        self.notes = {}
        self.takers = {slot: set() for slot in range(len(self.places))}

    def cache(self):
        return self.inner

    def field(self, slot, kind):
        block, at = self.places[slot]
        return block, 2 * at + kind

    def worth(self, slot, kind):
        block, field = self.field(slot, kind)
        return self.inner.seen(block)[field]

    def changes_of(self, slot, kind, states):
        return [number for number, change in enumerate(self.inner.changes)
                if change["place"] == self.field(slot, kind) and change["state"] in states]

    def maker(self, slot, states=("disk", "waits")):
        """The change by which the record of a slot was made, in the cache or on the disk."""
        return [n for n in self.changes_of(slot, 0, states) if self.notes[n] == "make"][-1]

    def turn(self, slot, kind, worth, needs, note):
        if self.worth(slot, kind) == worth:
            return None
        waiting = self.inner.waiting()
        block, field = self.field(slot, kind)
        number = self.inner.change(block, field, worth, tuple(sorted(set(needs) & set(waiting))))
        self.notes[number] = note
        return number

    def check(self, thing):
        if not is_plain_number(thing, len(self.places)) or self.worth(thing, 0) == 0:
            raise NoRecord()

    def make(self, word):
        if type(word) is not int or not 1 <= word <= 10 ** 30:
            raise NoWord()
        free = [slot for slot in range(len(self.places)) if self.worth(slot, 0) == 0]
        if not free:
            raise Full()
        self.turn(free[0], 0, word, (), "make")
        return free[0]

    def put(self, slot, word):
        self.check(slot)
        if type(word) is not int or not 1 <= word <= 10 ** 30:
            raise NoWord()
        self.turn(slot, 0, word, (), "put")

    def turn_tie(self, slot, tie, needs, note):
        ahead = self.worth(slot, 1)
        number = self.turn(slot, 1, tie, needs, note)
        if number is not None and ahead:
            self.takers[ahead - 1].add(number)

    def tie(self, slot, other):
        self.check(slot)
        self.check(other)
        if slot == other:
            raise SameRecord()
        self.turn_tie(slot, other + 1, (self.maker(slot), self.maker(other)), ("tie", other, self.maker(other)))

    def untie(self, slot):
        self.check(slot)
        self.turn_tie(slot, 0, (), "untie")

    def drop(self, slot):
        tied = self.ties_to(slot)
        if tied:
            raise Tied(tied[0])
        self.turn_tie(slot, 0, (), "untie")
        waiting = self.changes_of(slot, 1, ("waits",))
        self.turn(slot, 0, 0, self.takers[slot] | set(waiting[-1:]), "drop")

    def table(self, told):
        found = {}
        for slot in range(len(self.places)):
            block, field = self.field(slot, 0)
            word, tie = told(block)[field:field + 2]
            if word:
                found[slot] = (word, tie - 1 if tie else None)
        return found

    def records(self):
        return self.table(self.inner.seen)

    def on_disk(self):
        return self.table(self.inner.disk)

    def ties_to(self, slot):
        self.check(slot)
        return tuple(other for other, (_, tie) in sorted(self.records().items()) if tie == slot)

    def write(self, block):
        if not is_plain_number(block, len(self.slots)):
            raise NoBlock()
        return self.inner.write(block)

    def flush(self):
        return self.inner.flush()

    def cut(self):
        return self.inner.cut()

    def settle(self, slot):
        if not is_plain_number(slot, len(self.places)):
            raise NoSlot()
        return self.inner.sync(self.changes_of(slot, 0, ("waits",)) + self.changes_of(slot, 1, ("waits",)))

    def copy(self):
        twin = PlainStore(self.slots)
        twin.inner = self.inner.copy()
        twin.notes = dict(self.notes)
        twin.takers = {slot: set(takers) for slot, takers in self.takers.items()}
        return twin

    def astray(self):
        """The slots with ties on the disk that lead astray: from or to no record, or to another than was tied."""
        disk = self.on_disk()
        wrong = []
        for slot in range(len(self.places)):
            block, field = self.field(slot, 1)
            if self.inner.disk(block)[field] == 0:
                continue
            _, other, maker = self.notes[self.changes_of(slot, 1, ("disk",))[-1]]
            if slot not in disk or other not in disk or self.maker(other, ("disk",)) != maker:
                wrong.append(slot)
        return wrong
