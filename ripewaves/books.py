"""Books of changes, and what is made of them."""

from ripewaves.errors import BadBook, NoBlock, NoChange, NoLot, RingApart
from ripewaves.lots import far_masks, is_lot_below, is_number, is_number_below, lot_of, mask_of, ring_lots

MOST_CHANGES = 200
MOST_BLOCKS = 50
MOST_NEEDS = 4000


class Book:
    """The block of each change, and the needs: ascending pairs (change, other).

    far holds, for each change, the mask of all that it needs, however far. It is
    worked out once, here, as a book never changes and nearly all that is asked of it
    begins with this.
    """

    def __init__(self, blocks, needs):
        check_parts(blocks, needs)
        far = far_masks(len(blocks), needs)
        if far is None:
            raise BadBook("ring")
        self.blocks = blocks
        self.needs = needs
        self.far = far

    def __eq__(self, other):
        return isinstance(other, Book) and self.blocks == other.blocks and self.needs == other.needs


def are_blocks(thing):
    """Whether a thing can be the blocks of a book."""
    if not isinstance(thing, tuple) or len(thing) > MOST_CHANGES:
        return False
    return all([is_number_below(MOST_BLOCKS, block) for block in thing])


def check_parts(blocks, needs):
    """Raise BadBook for all that can be wrong with the parts of a book, but a ring."""
    if not are_blocks(blocks):
        raise BadBook("blocks")
    if not isinstance(needs, tuple) or len(needs) > MOST_NEEDS:
        raise BadBook("needs")
    for index, need in enumerate(needs):
        if not is_need(len(blocks), need):
            raise BadBook(index)
        if index > 0 and need <= needs[index - 1]:
            raise BadBook(index)


def is_need(many, thing):
    """Whether a thing is a pair of unlike changes, of so many."""
    if not isinstance(thing, tuple) or len(thing) != 2:
        return False
    change, other = thing
    return is_number_below(many, change) and is_number_below(many, other) and change != other


def made_book(blocks, needs):
    """The book of parts that are right, but may be greater than Book lets."""
    book = Book((), ())
    book.blocks = blocks
    book.needs = needs
    book.far = far_masks(len(blocks), needs)
    return book


def is_block(book, thing):
    """Whether a thing is a block of the book."""
    return is_number(thing) and thing in book.blocks


def is_change(book, thing):
    """Whether a thing is a change of the book."""
    return is_number_below(len(book.blocks), thing)


def is_row_of_needs(book, thing):
    """Whether a thing is a tuple of changes, not empty, each of which needs the one ahead, however far."""
    if not isinstance(thing, tuple) or thing == ():
        return False
    if not all([is_change(book, change) for change in thing]):
        return False
    return all([book.far[thing[at]] >> thing[at - 1] & 1 for at in range(1, len(thing))])


def needs_of(masks):
    """The ascending tuple of the needs of changes of others, by the mask of these for each change."""
    return tuple([(change, other) for change, mask in enumerate(masks) for other in lot_of(mask)])


def beneath(book, change):
    """The lot of all that a change needs, however far."""
    if not is_change(book, change):
        raise NoChange()
    return lot_of(book.far[change])


def above(book, change):
    """The lot of all that need a change, however far."""
    if not is_change(book, change):
        raise NoChange()
    return tuple([other for other, mask in enumerate(book.far) if mask >> change & 1])


def filled(book):
    """The book in which each change needs, directly, all that it needs however far."""
    return made_book(book.blocks, needs_of(book.far))


def bared(book):
    """The book with the fewest needs that is the same when filled."""
    further = [0] * len(book.blocks)
    for change, other in book.needs:
        further[change] |= book.far[other]
    needs = [(change, other) for change, other in book.needs if not further[change] >> other & 1]
    return made_book(book.blocks, tuple(needs))


def day(book, lot):
    """The book of just the changes of a lot; needs pass through the others."""
    if not is_lot_below(len(book.blocks), lot):
        raise NoLot()
    mask = mask_of(lot)
    place = {change: at for at, change in enumerate(lot)}
    needs = [(place[change], place[other]) for change in lot for other in lot_of(book.far[change] & mask)]
    return made_book(tuple([book.blocks[change] for change in lot]), tuple(needs))


def put_together(book, one, other):
    """The book in which all changes of the other block lie in the one."""
    if not is_block(book, one) or not is_block(book, other):
        raise NoBlock()
    blocks = [one if block == other else block for block in book.blocks]
    return made_book(tuple(blocks), book.needs)


def parted(book, change):
    """The book in which a change lies in a block of its own."""
    if not is_change(book, change):
        raise NoChange()
    fresh = 0
    while fresh in book.blocks:
        fresh += 1
    blocks = book.blocks[:change] + (fresh,) + book.blocks[change + 1:]
    return made_book(blocks, book.needs)


def beside(one, other):
    """The book of the changes of two books, in blocks apart."""
    many = len(one.blocks)
    shift = max(one.blocks) + 1 if many > 0 else 0
    blocks = [block + shift for block in other.blocks]
    needs = [(first + many, second + many) for first, second in other.needs]
    return made_book(one.blocks + tuple(blocks), one.needs + tuple(needs))


def drawn_together(blocks, needs):
    """The book in which changes that need one another are one, and the lots that became one."""
    check_parts(blocks, needs)
    lots = ring_lots(len(blocks), needs)
    for lot in lots:
        if len({blocks[change] for change in lot}) > 1:
            raise RingApart(lot)
    place = {change: at for at, lot in enumerate(lots) for change in lot}
    pairs = sorted({(place[change], place[other]) for change, other in needs if place[change] != place[other]})
    book = made_book(tuple([blocks[lot[0]] for lot in lots]), tuple(pairs))
    return book, tuple(lots)
