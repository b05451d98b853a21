"""Rules that tell which block is written next, and writers that see the ripe blocks alone."""

from ripewaves.books import Book
from ripewaves.errors import BadWriter, NoRule
from ripewaves.even import fewest, shortest
from ripewaves.lots import full_mask, is_number, lot_of, lowest_terms
from ripewaves.standings import block_masks, brought


def least_block(coming, last):
    """The least ripe block.

    Here and for all rules, coming is the dict from the ripe blocks, as they ascend, to the masks of
    what they bring, and last the block that was written last, -1 at first.
    """
    return min(coming)


def greatest_block(coming, last):
    """The greatest ripe block."""
    return max(coming)


def most_block(coming, last):
    """The block that brings the most changes, of these the least one."""
    return min([(-len(lot_of(mask)), block) for block, mask in coming.items()])[1]


def few_block(coming, last):
    """The block that brings the fewest changes, of these the least one."""
    return min([(len(lot_of(mask)), block) for block, mask in coming.items()])[1]


def elder_block(coming, last):
    """The block that brings the least change."""
    return min([(lot_of(mask)[0], block) for block, mask in coming.items()])[1]


def turn_block(coming, last):
    """The least ripe block above the one written last, else the least one."""
    return min([block for block in coming if block > last], default=min(coming))


CHOICES = {
    "least": least_block,
    "greatest": greatest_block,
    "most": most_block,
    "few": few_block,
    "elder": elder_block,
    "turn": turn_block,
}


def coming_masks(book, masks, there):
    """The dict from the ripe blocks, as they ascend, to the masks of what they bring to a standing."""
    brings = {block: brought(book, inside, there) for block, inside in masks.items()}
    return {block: mask for block, mask in brings.items() if mask}


def row_by(book, rule):
    """The row of writes from nothing to all by a rule."""
    if not isinstance(rule, str) or rule not in CHOICES:
        raise NoRule()
    choice = CHOICES[rule]
    masks = block_masks(book)
    whole = full_mask(len(book.blocks))
    row = []
    there = 0
    last = -1
    while there != whole:
        coming = coming_masks(book, masks, there)
        last = choice(coming, last)
        row.append(last)
        there |= coming[last]
    return tuple(row)


def rule_numbers(book):
    """The dict from the rules to the numbers of their writes."""
    return {rule: len(row_by(book, rule)) for rule in CHOICES}


def rule_shares(book):
    """The dict from the rules to the numbers of their writes by the least one, in lowest terms."""
    least = fewest(book)
    if least == 0:
        return {rule: (1, 1) for rule in CHOICES}
    return {rule: lowest_terms(number, least) for rule, number in rule_numbers(book).items()}


def row_of_writer(writer, book):
    """The row that a writer makes from nothing to all."""
    masks = block_masks(book)
    whole = full_mask(len(book.blocks))
    row = []
    seen = []
    there = 0
    while there != whole:
        coming = coming_masks(book, masks, there)
        seen.append(tuple(coming))
        # a list of its own: the writer may do to it what it likes
        block = writer(list(seen))
        if not is_number(block) or block not in coming:
            raise BadWriter(tuple(row))
        row.append(block)
        there |= coming[block]
    return tuple(row)


def blind_days():
    """Two books that are the same but for the blocks' names, each with a latecomer."""
    return Book((0, 1, 1), ((1, 0),)), Book((1, 0, 0), ((1, 0),))


def beaten(writer):
    """Which of the blind days takes the writer three writes, its row there, and a willing row of two."""
    one, other = blind_days()
    row = row_of_writer(writer, one)
    if len(row) == 3:
        return 0, row, shortest(one)
    return 1, row_of_writer(writer, other), shortest(other)
