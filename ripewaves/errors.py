"""All errors that this package raises."""


class WaveError(ValueError):
    """What all errors of this package are."""


class NoChange(WaveError):
    """What was given is no change of the book."""


class NoLot(WaveError):
    """What was given is no lot of changes."""


class NoBlock(WaveError):
    """What was given is no block."""


class NoStanding(WaveError):
    """What was given is no standing of the book."""


class SameBlock(WaveError):
    """Two blocks that must be unlike are the same."""


class BadSizes(WaveError):
    """What was given cannot be the sizes of a cache's blocks."""


class NoField(WaveError):
    """What was given is no field of the block."""


class NoWorth(WaveError):
    """What was given is no worth of a field."""


class NoNeeds(WaveError):
    """What was given cannot be the needs of a change."""


class NotWaiting(WaveError):
    """What was given is no change that waits."""


class NoNumbers(WaveError):
    """What was given is no lot of changes of the cache."""


class NotTwo(WaveError):
    """The book has not just two blocks."""


class NoNumber(WaveError):
    """What was given is not the number that is wanted."""


class NoOrder(WaveError):
    """What was given is no order of the book's blocks."""


class NoRow(WaveError):
    """What was given is no row of needs."""


class NoRule(WaveError):
    """What was given is no rule of writing."""


class BadBlocks(WaveError):
    """What was given cannot be the blocks of a book."""


class NotWilling(WaveError):
    """What was given is no willing row from nothing to all."""


class NoLog(WaveError):
    """What was given is no log."""


class BadSlots(WaveError):
    """What was given cannot be the slots of a store."""


class NoWord(WaveError):
    """What was given is no word of a record."""


class Full(WaveError):
    """No slot is free."""


class NoRecord(WaveError):
    """No record is in what was given."""


class SameRecord(WaveError):
    """Two records that must be unlike are the same."""


class NoSlot(WaveError):
    """What was given is no slot of the store."""


class NoLine(WaveError):
    """What was given is no line of a shell."""


class NoLines(WaveError):
    """What was given is not the lines that are wanted."""


class KnownNeed(WaveError):
    """The change needs the other one already."""


class InRing(WaveError):
    """The change would need itself."""


class NoNeed(WaveError):
    """The change does not need the other one itself."""


class NothingDone(WaveError):
    """There is nothing to undo."""


class BadBook(WaveError):
    """Blocks and needs make no book; part tells what is wrong first."""

    def __init__(self, part):
        self.part = part


class RingApart(WaveError):
    """The changes of a lot need one another and lie in several blocks."""

    def __init__(self, lot):
        self.lot = lot


class BadRow(WaveError):
    """What was given is no row of writes; index is the first wrong place."""

    def __init__(self, index):
        self.index = index


class TooMany(WaveError):
    """There are more than the most that are let."""

    def __init__(self, most):
        self.most = most


class NotRipe(WaveError):
    """A block that must be ripe is not."""

    def __init__(self, block):
        self.block = block


class Late(WaveError):
    """The book has a latecomer."""

    def __init__(self, triple):
        self.triple = triple


class Needed(WaveError):
    """Another change that waits needs this one."""

    def __init__(self, other):
        self.other = other


class Tied(WaveError):
    """Another record is tied to this one."""

    def __init__(self, other):
        self.other = other


class BadText(WaveError):
    """A line of the text has not the form that can stand there."""

    def __init__(self, line):
        self.line = line


class BadTale(WaveError):
    """A line of the tale has none of the shell's forms."""

    def __init__(self, line):
        self.line = line


class BadList(WaveError):
    """One of two lists is no list."""

    def __init__(self, which):
        self.which = which


class BadWriter(WaveError):
    """The writer gave what is no ripe block, behind a row."""

    def __init__(self, row):
        self.row = row
