"""Logs of what was written and what came, and what they tell of needs that nobody knows."""

from ripewaves.books import Book, are_blocks, made_book, needs_of
from ripewaves.errors import BadBlocks, NoLog, NotWilling
from ripewaves.lots import full_mask, is_lot_below, is_number, lot_of, mask_of
from ripewaves.standings import block_masks, brought, is_willing, many_rows


def is_write(blocks, thing):
    """Whether a thing is a pair of a block and a lot of its changes, not empty."""
    if not isinstance(thing, tuple) or len(thing) != 2:
        return False
    block, lot = thing
    if not is_number(block) or not is_lot_below(len(blocks), lot) or lot == ():
        return False
    return all([blocks[change] == block for change in lot])


def fits(blocks, thing):
    """Whether a thing is a log for some blocks that are right."""
    if not isinstance(thing, tuple):
        return False
    came = 0
    last = None
    for write in thing:
        if not is_write(blocks, write) or write[0] == last or mask_of(write[1]) & came:
            return False
        came |= mask_of(write[1])
        last = write[0]
    return came == full_mask(len(blocks))


def check_log(blocks, log):
    """Raise BadBlocks for what cannot be the blocks of a book, NoLog for what is no log for them."""
    if not are_blocks(blocks):
        raise BadBlocks()
    if not fits(blocks, log):
        raise NoLog()


def is_log(blocks, thing):
    """Whether a thing is a log for some blocks."""
    if not are_blocks(blocks):
        raise BadBlocks()
    return fits(blocks, thing)


def brought_along(book, row):
    """The tuple of pairs of the blocks of a row of writes and what they bring, one behind another."""
    masks = block_masks(book)
    there = 0
    pairs = []
    for block in row:
        mask = brought(book, masks[block], there)
        pairs.append((block, lot_of(mask)))
        there |= mask
    return tuple(pairs)


def log_of(book, row):
    """The log of a willing row from nothing to all."""
    if not is_willing(book, (), row):
        raise NotWilling()
    return brought_along(book, row)


def makes(book, log):
    """Whether the row of a log brings, in the book, just the lots of the log."""
    if not fits(book.blocks, log):
        raise NoLog()
    return brought_along(book, [write[0] for write in log]) == log


def between_masks(log):
    """The dict from the late changes to the masks of what came between."""
    between = {}
    behind = {}
    came = 0
    for block, lot in log:
        if block in behind:
            for change in lot:
                between[change] = came & ~behind[block]
        came |= mask_of(lot)
        behind[block] = came
    return between


def sure_masks(many, log):
    """For each of so many changes the mask of those that it surely needs.

    A late change needs some of what came between, and nobody knows which: so it surely needs what
    it would need, or be led to, by each of these. All of them came ahead of it.
    """
    between = between_masks(log)
    sure = [0] * many
    for _, lot in log:
        for change in lot:
            if change in between:
                sure[change] = full_mask(many)
                for other in lot_of(between[change]):
                    sure[change] &= sure[other] | 1 << other
    return sure


def ahead_masks(many, log, along):
    """For each change the mask of all that came ahead of it; where along, also of what came with it."""
    ahead = [0] * many
    came = 0
    for _, lot in log:
        mask = mask_of(lot)
        for change in lot:
            ahead[change] = (came | mask) & ~(1 << change) if along else came
        came |= mask
    return ahead


def sure_needs(blocks, log):
    """The ascending list of the needs, however far, that all books have that make the log."""
    check_log(blocks, log)
    return list(needs_of(sure_masks(len(blocks), log)))


def never_needs(blocks, log):
    """The ascending list of the pairs of unlike changes that are a need in no book that makes the log."""
    check_log(blocks, log)
    many = len(blocks)
    may = ahead_masks(many, log, True)
    return list(needs_of([full_mask(many) & ~(may[change] | 1 << change) for change in range(many)]))


def open_needs(blocks, log):
    """The ascending list of the pairs that are a need in some books that make the log, not in all."""
    check_log(blocks, log)
    many = len(blocks)
    may = ahead_masks(many, log, True)
    sure = sure_masks(many, log)
    return list(needs_of([may[change] & ~sure[change] for change in range(many)]))


def fewest_needs(blocks, log):
    """The least number of needs of a book that makes the log: one for each late change."""
    check_log(blocks, log)
    return len(between_masks(log))


def freest_book(blocks, log):
    """A book with the fewest needs that makes the log: each late change needs the least that came between."""
    check_log(blocks, log)
    between = between_masks(log)
    return Book(blocks, tuple([(change, lot_of(between[change])[0]) for change in sorted(between)]))


def fullest_book(blocks, log):
    """The book that makes the log in which each change needs all that came ahead of it."""
    check_log(blocks, log)
    return made_book(blocks, needs_of(ahead_masks(len(blocks), log, False)))


def other_rows(blocks, log):
    """The number of willing rows of the freest book."""
    return many_rows(freest_book(blocks, log))
