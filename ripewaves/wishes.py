"""Wished changes: how soon they can be on the disk, and what comes along."""

from ripewaves.errors import NoLot
from ripewaves.even import least_left, row_along
from ripewaves.lots import full_mask, is_lot_below, lot_of, mask_of
from ripewaves.standings import standing_mask, steps_from


def wish_masks(book, standing, lot):
    """The masks of a standing and of a wish."""
    there = standing_mask(book, standing)
    if not is_lot_below(len(book.blocks), lot):
        raise NoLot()
    return there, mask_of(lot)


def fewest_for(book, standing, lot):
    """The least number of writes from a standing until all of a wish are there."""
    there, wished = wish_masks(book, standing, lot)
    return least_left(steps_from(book, there), wished)[there]


def row_for(book, standing, lot):
    """The first of the shortest rows."""
    there, wished = wish_masks(book, standing, lot)
    steps = steps_from(book, there)
    return row_along(steps, least_left(steps, wished), there)


def shortest_ends(book, there, wished):
    """The list of the standings behind the shortest rows from a standing until all of a mask is there."""
    steps = steps_from(book, there)
    left = least_left(steps, wished)
    found = {there: True}
    waiting = [there]
    ends = []
    while waiting:
        here = waiting.pop()
        if left[here] == 0:
            ends.append(here)
            continue
        for behind in steps[here].values():
            if left[behind] == left[here] - 1 and behind not in found:
                found[behind] = True
                waiting.append(behind)
    return ends


def comes_along(book, standing, lot):
    """The lot of the changes that are new behind each shortest row."""
    there, wished = wish_masks(book, standing, lot)
    shared = full_mask(len(book.blocks))
    for end in shortest_ends(book, there, wished):
        shared &= end
    return lot_of(shared & ~there)


def may_come_along(book, standing, lot):
    """The lot of the changes that are new behind some shortest row."""
    there, wished = wish_masks(book, standing, lot)
    some = there
    for end in shortest_ends(book, there, wished):
        some |= end
    return lot_of(some & ~there)


def best_next(book, standing):
    """The lot of the blocks with which a shortest row from a standing to all begins."""
    there = standing_mask(book, standing)
    steps = steps_from(book, there)
    left = least_left(steps, full_mask(len(book.blocks)))
    return tuple([block for block, behind in steps[there].items() if left[behind] == left[there] - 1])


def depths(steps):
    """The dict from standings to the least numbers of writes that lead to them from nothing."""
    depth = {0: 0}
    # a write only adds bits, so by ascending masks each standing is reached ahead of those behind it
    for there in sorted(steps):
        for behind in steps[there].values():
            depth[behind] = min(depth.get(behind, depth[there] + 1), depth[there] + 1)
    return depth


def wish_numbers(book):
    """For each change the least number of writes from nothing until it is there."""
    numbers = {}
    for there, number in depths(steps_from(book, 0)).items():
        for change in lot_of(there):
            numbers[change] = min(numbers.get(change, number), number)
    return tuple([numbers[change] for change in range(len(book.blocks))])


def dearest(book):
    """The lot of the changes whose wish alone takes the most writes."""
    numbers = wish_numbers(book)
    most = max(numbers, default=0)
    return tuple([change for change, number in enumerate(numbers) if number == most])
