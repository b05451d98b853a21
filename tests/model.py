"""What the tests of the cache compare with: all changes kept, everything looked up anew from its definition."""

from ripewaves.books import Book


class PlainCache:
    def __init__(self, sizes):
        self.sizes = sizes
        self.changes = []
        self.past = []

    def change(self, block, field, worth, needs):
        lot = set(needs)
        if self.last(block, field) is not None:
            lot.add(self.last(block, field))
        self.changes.append({"place": (block, field), "worth": worth, "needs": lot, "state": "waits"})
        return len(self.changes) - 1

    def lot(self, state):
        return tuple(number for number, change in enumerate(self.changes) if change["state"] == state)

    def waiting(self):
        return self.lot("waits")

    def last(self, block, field):
        lot = [number for number in self.waiting() if self.changes[number]["place"] == (block, field)]
        return lot[-1] if lot else None

    def coming(self, block):
        lot = {number for number in self.waiting() if self.changes[number]["place"][0] == block}
        there = set(self.lot("disk"))
        while True:
            bad = {number for number in lot if not self.changes[number]["needs"] <= there | lot}
            if not bad:
                return tuple(sorted(lot))
            lot -= bad

    def write(self, block):
        lot = self.coming(block)
        for number in lot:
            self.changes[number]["state"] = "disk"
        self.past.append((block, lot))
        return lot

    def writes(self):
        return len(self.past)

    def ripe(self):
        return tuple(block for block in range(len(self.sizes)) if self.coming(block))

    def worths(self, block, lot):
        """For each field the worth of the last of its changes in a lot."""
        row = []
        for field in range(self.sizes[block]):
            told = [change["worth"] for number, change in enumerate(self.changes)
                    if number in lot and change["place"] == (block, field)]
            row.append(told[-1] if told else 0)
        return tuple(row)

    def seen(self, block):
        return self.worths(block, self.lot("disk") + self.lot("waits"))

    def picture(self, block):
        return self.worths(block, self.lot("disk") + self.coming(block))

    def disk(self, block):
        return self.worths(block, self.lot("disk"))

    def book(self):
        lot = self.waiting()
        blocks = tuple(self.changes[number]["place"][0] for number in lot)
        needs = [(a, b) for a, n in enumerate(lot) for b, m in enumerate(lot) if m in self.changes[n]["needs"]]
        return Book(blocks, tuple(needs)), lot

    def needers(self, number):
        """What waits and needs a change, however far."""
        found = {number}
        for other in self.waiting():
            if self.changes[other]["needs"] & found:
                found.add(other)
        return sorted(found - {number})

    def drop(self, number):
        self.changes[number]["state"] = "gone"

    def sync(self, numbers):
        row = self.least_row(numbers)
        for block in row:
            self.write(block)
        return row

    def least_row(self, numbers):
        """The first of the shortest rows of ripe writes until some changes are there: rows gone through by length."""
        front = [((), self.copy())]
        seen = {front[0][1].lot("disk")}
        while True:
            for row, state in front:
                if set(numbers) <= set(state.lot("disk")):
                    return row
            onward = []
            for row, state in front:
                for block in state.ripe():
                    twin = state.copy()
                    twin.write(block)
                    if twin.lot("disk") not in seen:
                        seen.add(twin.lot("disk"))
                        onward.append((row + (block,), twin))
            front = onward

    def flush(self):
        row = []
        while self.waiting():
            row.append(self.ripe()[0])
            self.write(row[-1])
        return tuple(row)

    def cut(self):
        lot = self.waiting()
        for number in lot:
            self.drop(number)
        return lot

    def gone(self, number):
        return self.changes[number]["state"] == "gone"

    def history(self):
        return list(self.past)

    def copy(self):
        twin = PlainCache(self.sizes)
        twin.changes = [dict(change) for change in self.changes]
        twin.past = list(self.past)
        return twin
