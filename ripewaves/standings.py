"""Standings, what writes bring, and rows of writes.

Inside, a standing is the mask of the changes that are there.
"""

from ripewaves.books import is_block
from ripewaves.errors import BadRow, NoBlock, NoStanding, TooMany
from ripewaves.lots import full_mask, is_lot_below, lot_of, mask_of

MOST_STANDINGS = 2000


def is_standing(book, thing):
    """Whether a thing is a lot of changes with all that they need."""
    if not is_lot_below(len(book.blocks), thing):
        return False
    there = mask_of(thing)
    return all([book.far[change] & ~there == 0 for change in thing])


def standing_mask(book, standing):
    """The mask of a standing."""
    if not is_standing(book, standing):
        raise NoStanding()
    return mask_of(standing)


def block_masks(book):
    """The dict from the blocks of a book, as they ascend, to the masks of their changes."""
    masks = {block: 0 for block in sorted(set(book.blocks))}
    for change, block in enumerate(book.blocks):
        masks[block] |= 1 << change
    return masks


def brought(book, inside, there):
    """The mask of what a write brings to a standing, inside being the block's mask.

    A change comes just if all that it needs, however far, is there or in its block.
    """
    outside = ~(there | inside)
    mask = 0
    for change in lot_of(inside & ~there):
        if book.far[change] & outside == 0:
            mask |= 1 << change
    return mask


def steps_at(book, masks, there):
    """The dict from the ripe blocks, as they ascend, to the standings behind their writes."""
    steps = {}
    for block, inside in masks.items():
        mask = brought(book, inside, there)
        if mask:
            steps[block] = there | mask
    return steps


def steps_from(book, start):
    """The dict from all standings to which writes lead from a first one to their steps."""
    masks = block_masks(book)
    steps = {}
    found = {start: True}
    waiting = [start]
    while waiting:
        there = waiting.pop()
        onward = steps_at(book, masks, there)
        steps[there] = onward
        for behind in onward.values():
            if behind not in found:
                found[behind] = True
                waiting.append(behind)
        if len(found) > MOST_STANDINGS:
            raise TooMany(MOST_STANDINGS)
    return steps


def comes(book, standing, block):
    """The lot of what a write of a block brings to a standing."""
    there = standing_mask(book, standing)
    if not is_block(book, block):
        raise NoBlock()
    return lot_of(brought(book, block_masks(book)[block], there))


def ripe(book, standing):
    """The lot of the blocks whose write brings something to a standing."""
    there = standing_mask(book, standing)
    return tuple(steps_at(book, block_masks(book), there))


def wrong_write(book, thing):
    """The first place of a row that holds no block of the book, -1 for no tuple, or None."""
    if not isinstance(thing, tuple):
        return -1
    for index, block in enumerate(thing):
        if not is_block(book, block):
            return index
    return None


def led(book, standing, row):
    """The list of the standings: the first one, and that behind each write of a row."""
    there = standing_mask(book, standing)
    index = wrong_write(book, row)
    if index is not None:
        raise BadRow(index)
    masks = block_masks(book)
    lots = [standing]
    for block in row:
        mask = brought(book, masks[block], there)
        there |= mask
        lots.append(lot_of(there) if mask else lots[-1])
    return lots


def is_willing(book, standing, thing):
    """Whether a thing is a row of writes from a standing to all, each of which brings something."""
    there = standing_mask(book, standing)
    if wrong_write(book, thing) is not None:
        return False
    masks = block_masks(book)
    for block in thing:
        mask = brought(book, masks[block], there)
        if mask == 0:
            return False
        there |= mask
    return there == full_mask(len(book.blocks))


def standings(book):
    """The list, fewest first, of all standings to which writes lead from nothing."""
    lots = [lot_of(there) for there in steps_from(book, 0)]
    ranked = sorted([(len(lot), lot) for lot in lots])
    return [pair[1] for pair in ranked]


def many_rows(book):
    """How many willing rows there are from nothing to all."""
    steps = steps_from(book, 0)
    rows = {there: 0 for there in steps}
    rows[0] = 1
    # a write only adds bits, so by ascending masks each standing is counted ahead of those behind it
    for there in sorted(steps):
        for behind in steps[there].values():
            rows[behind] += rows[there]
    return rows[full_mask(len(book.blocks))]
