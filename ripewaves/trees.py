"""Trees of cases, which show that no willing row is shorter than a number."""

from ripewaves.errors import NoNumber, TooMany
from ripewaves.even import fewest
from ripewaves.lots import is_number, lot_of
from ripewaves.standings import block_masks, steps_at, steps_from
from ripewaves.twoblocks import floor_of

MOST_TO_SHOW = 8
FLOOR = "floor"
CASES = "cases"


def floor_left(book, masks, there, kept):
    """The pair_floor of the day of what is not there; kept as of floor_of."""
    left = [inside & ~there for inside in masks.values() if inside & ~there]
    return floor_of(book, left, kept)


def floors_of(book, some):
    """The dict from some standings, as masks, to the pair_floor of the day of what is not there."""
    masks = block_masks(book)
    kept = {}
    return {there: floor_left(book, masks, there, kept) for there in some}


def floors(book):
    """The dict from all standings that can come to the pair_floor of the day of what is not there."""
    numbers = floors_of(book, sorted(steps_from(book, 0)))
    return {lot_of(there): number for there, number in numbers.items()}


def tree_at(steps, numbers, there, number):
    """A tree that shows a number at a standing from which no row is shorter, numbers being the floors."""
    if numbers[there] >= number:
        return (FLOOR,)
    trees = {block: tree_at(steps, numbers, behind, number - 1) for block, behind in steps[there].items()}
    return CASES, trees


def tree_for(book, number):
    """A tree that shows a number at nothing, or None if there are shorter rows."""
    if not is_number(number):
        raise NoNumber()
    if len(book.blocks) > MOST_TO_SHOW:
        raise TooMany(MOST_TO_SHOW)
    if fewest(book) < number:
        return None
    steps = steps_from(book, 0)
    # each call goes one write further, and so many writes at most as there are changes
    return tree_at(steps, floors_of(book, sorted(steps)), 0, number)


def is_floor(thing):
    """Whether a thing is the tree that goes no further."""
    return isinstance(thing, tuple) and len(thing) == 1 and thing[0] == FLOOR


def are_cases(thing, steps):
    """Whether a thing is a pair of the word for cases and a dict from just the blocks of some steps."""
    if not isinstance(thing, tuple) or len(thing) != 2 or thing[0] != CASES:
        return False
    trees = thing[1]
    if not isinstance(trees, dict) or len(trees) != len(steps):
        return False
    return all([is_number(block) and block in steps for block in trees])


def is_tree(book, number, thing):
    """Whether a thing is a tree that shows a number at nothing."""
    if not is_number(number):
        raise NoNumber()
    masks = block_masks(book)
    kept = {}
    waiting = [(0, number, thing)]
    while waiting:
        there, shown, tree = waiting.pop()
        if is_floor(tree):
            if floor_left(book, masks, there, kept) < shown:
                return False
            continue
        steps = steps_at(book, masks, there)
        # where all is there no block is ripe, and there are no cases
        if not steps or not are_cases(tree, steps):
            return False
        for block, behind in steps.items():
            waiting.append((behind, shown - 1, tree[1][block]))
    return True
