"""Books of two blocks, for which the least number of writes is known, and a floor for other books."""

from itertools import combinations

from ripewaves.books import is_block, is_change, is_row_of_needs
from ripewaves.errors import NoBlock, NoChange, NotTwo
from ripewaves.even import greatest_turns, turn_rows
from ripewaves.lots import full_mask, lot_of
from ripewaves.standings import block_masks, brought


def two_masks(book):
    """The list of the masks of both blocks, the lesser block first."""
    masks = list(block_masks(book).values())
    if len(masks) != 2:
        raise NotTwo()
    return masks


def masks_from(book, block):
    """The masks of a block and of the other one."""
    one, other = two_masks(book)
    if not is_block(book, block):
        raise NoBlock()
    return (one, other) if block == min(book.blocks) else (other, one)


def is_to_and_fro(book, thing):
    """Whether a thing is a to-and-fro row."""
    two_masks(book)
    if not is_row_of_needs(book, thing):
        return False
    blocks = [book.blocks[change] for change in thing]
    return all([blocks[at] != blocks[at - 1] for at in range(1, len(blocks))])


def pair_rows(book, one, other):
    """The greatest lengths of to-and-fro rows of two blocks that begin in the one, and in the other."""
    return greatest_turns(book, one | other, one), greatest_turns(book, one | other, other)


def two_rows(book):
    """The greatest lengths of to-and-fro rows that begin in the lesser, and in the greater block."""
    one, other = two_masks(book)
    return pair_rows(book, one, other)


def row_back(rows, change):
    """The longest row that ends with a change, rows being as of turn_rows."""
    row = [change]
    while rows[row[-1]][1] is not None:
        row.append(rows[row[-1]][1])
    return tuple(row[::-1])


def long_row(book):
    """A longest to-and-fro row."""
    longest = ()
    for begin in two_masks(book):
        rows = turn_rows(book, full_mask(len(book.blocks)), begin)
        length, change = max([(pair[0], last) for last, pair in rows.items()])
        if length > len(longest):
            longest = row_back(rows, change)
    return longest


def pair_fewest(book, one, other):
    """The least number of writes for two blocks, by the greatest lengths of their rows."""
    first, second = pair_rows(book, one, other)
    return max(first, second) + (1 if first == second else 0)


def fewest_two(book):
    """The least number of writes until all is there."""
    one, other = two_masks(book)
    return pair_fewest(book, one, other)


def by_turns(book, block):
    """The list of the lots that come when the blocks are written by turns, this one first."""
    inside, outside = masks_from(book, block)
    lots = []
    there = 0
    while there != inside | outside:
        mask = brought(book, inside, there)
        lots.append(lot_of(mask))
        there |= mask
        inside, outside = outside, inside
    return lots


def number_at(book, block, change):
    """By which of the writes by turns, from 1 on, a change comes."""
    lots = by_turns(book, block)
    if not is_change(book, change):
        raise NoChange()
    return [change in lot for lot in lots].index(True) + 1


def row_to(book, block, change):
    """A longest to-and-fro row that begins in a block and ends with a change, or None."""
    begin, _ = masks_from(book, block)
    if not is_change(book, change):
        raise NoChange()
    rows = turn_rows(book, full_mask(len(book.blocks)), begin)
    if rows[change][0] == 0:
        return None
    return row_back(rows, change)


def floor_of(book, masks, kept):
    """The greatest number that the rows of two of some masks, with one write of each other, ask for.

    Each mask holds changes of one block. Rows of changes of a book are those of any day of it on
    which these come up: both go by needs however far. kept holds what is known of two masks: who
    asks of many standings of a book meets the same two again and again.
    """
    floors = []
    for pair in combinations(masks, 2):
        if pair not in kept:
            one, other = pair
            kept[pair] = pair_fewest(book, one, other)
        floors.append(kept[pair] + len(masks) - 2)
    return max(floors, default=len(masks))


def pair_floor(book):
    """The greatest number that the rows of two blocks, with one write of each other block, ask for."""
    return floor_of(book, list(block_masks(book).values()), {})
