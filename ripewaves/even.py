"""Even books, whose willing rows are all equally long, and where the rows of other books part."""

from ripewaves.books import is_block
from ripewaves.errors import NotRipe, SameBlock
from ripewaves.lots import full_mask, is_lot_below, is_number, lot_of, mask_of
from ripewaves.standings import block_masks, brought, standing_mask, steps_from, wrong_write


def least_left(steps, wished):
    """The dict from standings to the least numbers of writes until all of a mask is there."""
    left = {}
    # a write only adds bits: by descending masks each standing comes behind those to which it leads
    for there in sorted(steps, reverse=True):
        if wished & ~there == 0:
            left[there] = 0
        else:
            left[there] = 1 + min([left[behind] for behind in steps[there].values()])
    return left


def greatest_left(steps):
    """The dict from standings to the greatest numbers of writes until all is there."""
    left = {}
    for there in sorted(steps, reverse=True):
        left[there] = max([1 + left[behind] for behind in steps[there].values()], default=0)
    return left


def row_along(steps, left, there):
    """The first row of writes each of which makes what is left one less, until nothing is left."""
    row = []
    while left[there] > 0:
        block = min([step for step, behind in steps[there].items() if left[behind] == left[there] - 1])
        row.append(block)
        there = steps[there][block]
    return tuple(row)


def fewest(book):
    """The least length of a willing row from nothing to all."""
    return least_left(steps_from(book, 0), full_mask(len(book.blocks)))[0]


def most(book):
    """The greatest length of a willing row from nothing to all."""
    return greatest_left(steps_from(book, 0))[0]


def shortest(book):
    """The first of the shortest willing rows from nothing to all."""
    steps = steps_from(book, 0)
    return row_along(steps, least_left(steps, full_mask(len(book.blocks))), 0)


def longest(book):
    """The first of the longest willing rows from nothing to all."""
    steps = steps_from(book, 0)
    return row_along(steps, greatest_left(steps), 0)


def is_even(book):
    """Whether all willing rows of a book from nothing to all are equally long."""
    return lefts(book) is not None


def lefts(book):
    """Of an even book the dict from all standings that can come to how many writes are left, else None."""
    steps = steps_from(book, 0)
    least = least_left(steps, full_mask(len(book.blocks)))
    if least[0] != greatest_left(steps)[0]:
        return None
    return {lot_of(there): least[there] for there in sorted(steps)}


def is_lefts(book, thing):
    """Whether a thing is the dict that lefts returns."""
    right = lefts(book)
    if right is None or not isinstance(thing, dict) or len(thing) != len(right):
        return False
    # the numbers are looked at one by one, as a flag would be equal to 0 or 1
    return all([is_number(thing.get(standing)) and thing[standing] == left for standing, left in right.items()])


def needed_first(book, area):
    """The list of the changes of a mask, each behind all that it needs."""
    ranked = sorted([(len(lot_of(book.far[change])), change) for change in lot_of(area)])
    return [pair[1] for pair in ranked]


def turn_rows(book, area, begin):
    """The dict from the changes of an area of two blocks to pairs (length, change ahead).

    They tell of a longest row of changes of the area, by turns in the two blocks, each of which
    needs the one ahead, that begins in the block of the mask begin and ends with the change:
    0 if there is none. The change ahead is None where there is none.
    """
    rows = {}
    for change in needed_first(book, area):
        begins = begin >> change & 1
        length, ahead = begins, None
        across = area & ~begin if begins else area & begin
        for other in lot_of(book.far[change] & across):
            if rows[other][0] >= length:
                length, ahead = rows[other][0] + 1, other
        rows[change] = (length, ahead)
    return rows


def greatest_turns(book, area, begin):
    """The greatest length of a row as of turn_rows; the area is not empty in either block."""
    return max([pair[0] for pair in turn_rows(book, area, begin).values()])


def to_and_fro(book, standing, one, other):
    """The greatest lengths of to-and-fro rows of two ripe blocks that begin in the one, and in the other."""
    there = standing_mask(book, standing)
    masks = block_masks(book)
    for block in (one, other):
        if not is_block(book, block) or brought(book, masks[block], there) == 0:
            raise NotRipe(block)
    if one == other:
        raise SameBlock()
    area = brought(book, masks[one] | masks[other], there)
    return greatest_turns(book, area, masks[one]), greatest_turns(book, area, masks[other])


def row_by_turns(steps, there, one, other):
    """The row of writes of two ripe blocks by turns, the one first, till neither is ripe."""
    row = []
    while one in steps[there]:
        row.append(one)
        there = steps[there][one]
        one, other = other, one
    return tuple(row)


def parting(book):
    """Of a book that is not even a standing and two rows from it to one, the first shorter by one, else None."""
    steps = steps_from(book, 0)
    least = least_left(steps, full_mask(len(book.blocks)))
    greatest = greatest_left(steps)
    uneven = [there for there in steps if least[there] != greatest[there]]
    if not uneven:
        return None
    # behind the greatest of them all is even: it is two blocks that are ripe just there that do not agree
    there = max(uneven)
    ranked = sorted([(least[behind], block) for block, behind in steps[there].items()])
    quick, slow = ranked[0][1], ranked[-1][1]
    return lot_of(there), row_by_turns(steps, there, quick, slow), row_by_turns(steps, there, slow, quick)


def end_of(book, steps, there, thing):
    """The standing behind a row each of whose writes brings something, None for another thing."""
    if wrong_write(book, thing) is not None:
        return None
    for block in thing:
        if block not in steps[there]:
            return None
        there = steps[there][block]
    return there


def is_parting(book, thing):
    """Whether a thing is a triple as parting returns."""
    steps = steps_from(book, 0)
    if not isinstance(thing, tuple) or len(thing) != 3 or not is_lot_below(len(book.blocks), thing[0]):
        return False
    there = mask_of(thing[0])
    if there not in steps:
        return False
    end = end_of(book, steps, there, thing[1])
    if end is None or end != end_of(book, steps, there, thing[2]):
        return False
    return len(thing[2]) == len(thing[1]) + 1
