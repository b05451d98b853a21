"""A bench: a book that is changed live, what it tells being kept."""

from ripewaves.books import MOST_BLOCKS, MOST_CHANGES, made_book, needs_of
from ripewaves.days import latecomer
from ripewaves.errors import InRing, KnownNeed, NoBlock, NoChange, NoNeed, NothingDone, TooMany
from ripewaves.even import fewest, is_even
from ripewaves.lots import is_number_below


class Bench:
    """A book that is changed by deeds, which can be undone.

    lying holds the block of each change, direct the mask of what it needs itself. kept is the
    dict of what the book has told as it is now. done holds for each deed the change that it was
    about, the block and the mask of this ahead of it, None and 0 where it was not there, and what
    was kept then. works counts what was worked out.
    """

    def __init__(self):
        self.lying = []
        self.direct = []
        self.kept = {}
        self.done = []
        self.works = 0

    def lie(self, block):
        """A new change lies in a block; returns its number."""
        check_block(block)
        number = len(self.lying)
        if number >= MOST_CHANGES:
            raise TooMany(MOST_CHANGES)
        self.do(number, None, 0)
        self.lying.append(block)
        self.direct.append(0)
        return number

    def shift(self, change, block):
        """A change lies in another block."""
        self.check_change(change)
        check_block(block)
        self.do(change, self.lying[change], self.direct[change])
        self.lying[change] = block

    def need(self, change, other):
        """A change needs another one."""
        self.check_change(change)
        self.check_change(other)
        if self.direct[change] >> other & 1:
            raise KnownNeed()
        if self.reach(other) >> change & 1:
            raise InRing()
        self.do(change, self.lying[change], self.direct[change])
        self.direct[change] |= 1 << other

    def unneed(self, change, other):
        """A change needs another one no more."""
        self.check_change(change)
        self.check_change(other)
        if not self.direct[change] >> other & 1:
            raise NoNeed()
        self.do(change, self.lying[change], self.direct[change])
        self.direct[change] ^= 1 << other

    def undo(self):
        """The last deed is as if it had not been done, and what was kept ahead of it is kept again."""
        if not self.done:
            raise NothingDone()
        change, block, mask, kept = self.done.pop()
        if block is None:
            # the last deed of a change that is there: it is the last change, and none needs it any more
            del self.lying[change]
            del self.direct[change]
        else:
            self.lying[change] = block
            self.direct[change] = mask
        self.kept = kept

    def book(self):
        """The book as it is now."""
        return made_book(tuple(self.lying), needs_of(self.direct))

    def even(self):
        """Whether the book is even."""
        if "even" not in self.kept:
            self.keep("even", is_even(self.book()))
        return self.kept["even"]

    def fewest(self):
        """The least number of writes of the book."""
        if "fewest" not in self.kept:
            self.keep("fewest", fewest(self.book()))
        return self.kept["fewest"]

    def late(self):
        """The least latecomer of the book, or None."""
        if "late" not in self.kept:
            self.keep("late", latecomer(self.book()))
        return self.kept["late"]

    def worked(self):
        """How often what was told was not kept."""
        return self.works

    def copy(self):
        """A bench that goes on apart, with all that is kept and can be undone."""
        twin = Bench()
        twin.lying = list(self.lying)
        twin.direct = list(self.direct)
        twin.kept = dict(self.kept)
        twin.done = [(change, block, mask, dict(kept)) for change, block, mask, kept in self.done]
        twin.works = self.works
        return twin

    def check_change(self, thing):
        """Raise NoChange for what is no change of the book."""
        if not is_number_below(len(self.lying), thing):
            raise NoChange()

    def do(self, change, block, mask):
        """A deed about a change that lay in a block and needed what a mask tells."""
        self.done.append((change, block, mask, self.kept))
        self.kept = {}

    def keep(self, word, told):
        """Keep what was worked out."""
        self.kept[word] = told
        self.works += 1

    def reach(self, change):
        """The mask of a change and all that it needs, however far."""
        mask = 0
        waiting = 1 << change
        while waiting:
            lowest = waiting & -waiting
            mask |= lowest
            waiting = (waiting | self.direct[lowest.bit_length() - 1]) & ~mask
        return mask


def check_block(thing):
    """Raise NoBlock for what is no number below 50."""
    if not is_number_below(MOST_BLOCKS, thing):
        raise NoBlock()
