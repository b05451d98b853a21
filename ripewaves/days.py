"""Books that are even on every day, and the latecomers of others."""

from itertools import combinations

from ripewaves.books import day, is_block
from ripewaves.errors import Late, NoBlock, TooMany
from ripewaves.even import fewest, most
from ripewaves.lots import lot_of, lowest_terms, mask_of
from ripewaves.standings import block_masks

MOST_TO_PART = 10
MOST_TO_SHARE = 7


def user_masks(book):
    """For each change the mask of all that need it, however far."""
    users = [0] * len(book.blocks)
    for change, far in enumerate(book.far):
        for other in lot_of(far):
            users[other] |= 1 << change
    return users


def home_masks(book):
    """For each change the mask of all changes of its block."""
    masks = block_masks(book)
    return [masks[block] for block in book.blocks]


def thirds(book, users, home, other):
    """The mask of the changes of a home that neither need another change nor are needed by it."""
    return home & ~users[other] & ~book.far[other]


def first_late(book, homes):
    """The least latecomer if the changes lie at such homes, or None."""
    users = user_masks(book)
    for change, far in enumerate(book.far):
        for other in lot_of(far & ~homes[change]):
            mask = thirds(book, users, homes[change], other)
            if mask:
                return change, other, lot_of(mask)[0]
    return None


def latecomer(book):
    """The least latecomer, or None."""
    return first_late(book, home_masks(book))


def latecomers(book):
    """The ascending list of the latecomers."""
    users = user_masks(book)
    homes = home_masks(book)
    found = []
    for change, far in enumerate(book.far):
        for other in lot_of(far & ~homes[change]):
            for third in lot_of(thirds(book, users, homes[change], other)):
                found.append((change, other, third))
    return found


def bad_days(book):
    """The ascending list of the lots of three changes whose day is not even."""
    return sorted({tuple(sorted(triple)) for triple in latecomers(book)})


def is_even_daily(book):
    """Whether all days of a book are even."""
    return latecomer(book) is None


def check_not_late(book):
    """Raise Late for a book with a latecomer."""
    triple = latecomer(book)
    if triple is not None:
        raise Late(triple)


def waves_inside(book, inside):
    """The list of the waves of the block of a mask, of a book without latecomers."""
    together = {}
    for change in lot_of(inside):
        together.setdefault(book.far[change] & ~inside, []).append(change)
    # of two lots that are needed one holds the other, so the greater mask is the greater lot
    return [tuple(together[needed]) for needed in sorted(together)]


def waves(book, block):
    """The list of the lots in which the changes of a block come, whatever willing writer writes."""
    if not is_block(book, block):
        raise NoBlock()
    check_not_late(book)
    return waves_inside(book, block_masks(book)[block])


def many_writes(book):
    """How many writes all willing writers make."""
    check_not_late(book)
    return sum([len(waves_inside(book, inside)) for inside in block_masks(book).values()])


def parted_homes(homes, lot):
    """For each change the mask of all changes of its block when each change of a lot lies by itself."""
    mask = mask_of(lot)
    return [1 << change if mask >> change & 1 else home & ~mask for change, home in enumerate(homes)]


def fewest_parted(book):
    """The first lot of changes, fewest first, without latecomers when each of them is parted."""
    many = len(book.blocks)
    if many > MOST_TO_PART:
        raise TooMany(MOST_TO_PART)
    homes = home_masks(book)
    for size in range(many + 1):
        for lot in combinations(range(many), size):
            if first_late(book, parted_homes(homes, lot)) is None:
                return lot


def greatest_share(book):
    """The greatest quotient of most and fewest of all days that are not empty: (top, bottom)."""
    many = len(book.blocks)
    if many > MOST_TO_SHARE:
        raise TooMany(MOST_TO_SHARE)
    top, bottom = 1, 1
    for mask in range(1, 1 << many):
        some = day(book, lot_of(mask))
        high, low = most(some), fewest(some)
        if high * bottom > top * low:
            top, bottom = high, low
    return lowest_terms(top, bottom)
