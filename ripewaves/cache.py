"""A cache whose changes are written back to a disk, block by block."""

from ripewaves.books import made_book
from ripewaves.errors import BadSizes, Needed, NoBlock, NoChange, NoField, NoNeeds, NoNumbers, NotWaiting, NoWorth
from ripewaves.even import least_left, row_along
from ripewaves.lots import is_integer, is_lot_below, is_number, is_number_below, lot_of, mask_of
from ripewaves.standings import steps_from

MOST_SIZES = 8
MOST_FIELDS = 20


class Cache:
    """A cache and its disk.

    The changes are numbered from 0. made holds (block, field, worth) of each, direct the mask
    of what it needed itself when it was made, far of what it needed however far; such as were
    on the disk already are left out there, as they are met. waits and lost are the masks of
    what waits and of what is gone: all else is on the disk. homes holds the mask of all changes
    of each block, worths the worths on the disk, written the pairs of the history.

    What the cache has is worked out from the disk and from what waits: so nothing must be put
    back by a drop or a cut.
    """

    def __init__(self, sizes):
        check_sizes(sizes)
        self.sizes = sizes
        self.made = []
        self.direct = []
        self.far = []
        self.waits = 0
        self.lost = 0
        self.homes = [0] * len(sizes)
        self.worths = [(0,) * size for size in sizes]
        self.written = []

    def change(self, block, field, worth, needs):
        """A new change of a field; returns its number."""
        self.check_field(block, field)
        if not is_integer(worth):
            raise NoWorth()
        if not self.are_there_or_wait(needs):
            raise NoNeeds()
        direct = mask_of(needs) & self.waits
        elder = self.last(block, field)
        if elder is not None:
            direct |= 1 << elder
        far = direct
        for other in lot_of(direct):
            far |= self.far[other]
        number = len(self.made)
        self.made.append((block, field, worth))
        self.direct.append(direct)
        self.far.append(far)
        self.waits |= 1 << number
        self.homes[block] |= 1 << number
        return number

    def last(self, block, field):
        """The last change of a field that waits, or None."""
        self.check_field(block, field)
        for number in reversed(lot_of(self.homes[block] & self.waits)):
            if self.made[number][1] == field:
                return number
        return None

    def write(self, block):
        """Write a block; returns the lot of the changes that came."""
        self.check_block(block)
        mask = self.coming(block)
        self.worths[block] = self.worths_with(block, mask)
        self.waits ^= mask
        lot = lot_of(mask)
        self.written.append((block, lot))
        return lot

    def writes(self):
        """How many writes there were."""
        return len(self.written)

    def waiting(self):
        """The lot of the changes that are not on the disk and not gone."""
        return lot_of(self.waits)

    def ripe(self):
        """The lot of the blocks whose write would bring something."""
        return tuple([block for block in range(len(self.sizes)) if self.coming(block)])

    def seen(self, block):
        """The worths of a block in the cache."""
        self.check_block(block)
        return self.worths_with(block, self.homes[block] & self.waits)

    def picture(self, block):
        """The worths of a block that a write would put on the disk now."""
        self.check_block(block)
        return self.worths_with(block, self.coming(block))

    def disk(self, block):
        """The worths of a block on the disk."""
        self.check_block(block)
        return self.worths[block]

    def book(self):
        """The book of the changes that wait, and the lot of their numbers."""
        lot = lot_of(self.waits)
        place = {number: at for at, number in enumerate(lot)}
        blocks = [self.made[number][0] for number in lot]
        needs = [(place[number], place[other]) for number in lot for other in lot_of(self.direct[number] & self.waits)]
        return made_book(tuple(blocks), tuple(needs)), lot

    def drop(self, number):
        """Undo a change that waits."""
        if not is_number_below(len(self.made), number) or not self.waits >> number & 1:
            raise NotWaiting()
        for other in lot_of(self.waits):
            if self.far[other] >> number & 1:
                raise Needed(other)
        self.waits ^= 1 << number
        self.lost |= 1 << number

    def sync(self, numbers):
        """Write until some changes are on the disk, as few writes as can be; returns the row."""
        if not self.are_there_or_wait(numbers):
            raise NoNumbers()
        book, lot = self.book()
        steps = steps_from(book, 0)
        asked = mask_of(numbers)
        wished = mask_of([at for at, number in enumerate(lot) if asked >> number & 1])
        row = row_along(steps, least_left(steps, wished), 0)
        for block in row:
            self.write(block)
        return row

    def flush(self):
        """Write the least ripe block until nothing waits; returns the row."""
        row = []
        while self.waits:
            block = self.ripe()[0]
            self.write(block)
            row.append(block)
        return tuple(row)

    def cut(self):
        """Lose all that waits; returns the lot of it."""
        lot = lot_of(self.waits)
        self.lost |= self.waits
        self.waits = 0
        return lot

    def gone(self, number):
        """Whether a change is gone by cut or drop."""
        if not is_number_below(len(self.made), number):
            raise NoChange()
        return self.lost >> number & 1 == 1

    def history(self):
        """The list of what was written: pairs of a block and the lot that came."""
        return list(self.written)

    def copy(self):
        """A cache that goes on apart."""
        twin = Cache(self.sizes)
        twin.made = list(self.made)
        twin.direct = list(self.direct)
        twin.far = list(self.far)
        twin.waits = self.waits
        twin.lost = self.lost
        twin.homes = list(self.homes)
        twin.worths = list(self.worths)
        twin.written = list(self.written)
        return twin

    def check_block(self, thing):
        """Raise NoBlock for what is no block."""
        if not is_number_below(len(self.sizes), thing):
            raise NoBlock()

    def check_field(self, block, thing):
        """Raise NoBlock for what is no block, NoField for what is no field of it."""
        self.check_block(block)
        if not is_number_below(self.sizes[block], thing):
            raise NoField()

    def are_there_or_wait(self, thing):
        """Whether a thing is a lot of changes that are not gone."""
        return is_lot_below(len(self.made), thing) and mask_of(thing) & self.lost == 0

    def coming(self, block):
        """The mask of the changes that a write of a block would bring.

        A change comes just if all that it needs, however far, is there or in its block.
        """
        inside = self.homes[block] & self.waits
        outside = self.waits & ~inside
        return mask_of([number for number in lot_of(inside) if self.far[number] & outside == 0])

    def worths_with(self, block, mask):
        """The worths of a block on the disk if the changes of a mask came, the last of each field staying."""
        row = list(self.worths[block])
        for number in lot_of(mask):
            field, worth = self.made[number][1:]
            row[field] = worth
        return tuple(row)


def check_sizes(sizes):
    """Raise BadSizes for what is no tuple of 1 to 8 numbers from 1 to 20."""
    if not isinstance(sizes, tuple) or not 1 <= len(sizes) <= MOST_SIZES:
        raise BadSizes()
    for size in sizes:
        if not is_number(size) or not 1 <= size <= MOST_FIELDS:
            raise BadSizes()
