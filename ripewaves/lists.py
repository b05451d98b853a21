"""Two lists of writes, each to be done in its own order; alike ones may be done together."""

from ripewaves.books import Book
from ripewaves.errors import BadList, NoNumber, TooMany
from ripewaves.lots import is_lot_below, is_number, is_number_below

MOST_ITEMS = 100
MOST_BLOCKS = 50
MOST_LISTS = 4096


def check_list(thing, which):
    """Raise BadList for what is no list."""
    if not isinstance(thing, tuple) or len(thing) > MOST_ITEMS:
        raise BadList(which)
    ahead = None
    for item in thing:
        if not is_number_below(MOST_BLOCKS, item) or item == ahead:
            raise BadList(which)
        ahead = item


def check_lists(one, other):
    """Raise BadList for the first of both that is no list."""
    check_list(one, "one")
    check_list(other, "other")


def lists_book(one, other):
    """The book with a change for each item of both lists, each needing the one ahead in its list."""
    check_lists(one, other)
    many = len(one) + len(other)
    needs = [(change, change - 1) for change in range(1, many) if change != len(one)]
    return Book(one + other, tuple(needs))


def list_steps(one, other, place):
    """The dict from the blocks that can be written at a place to the places behind.

    A place is a pair (i, j): i items of the one list and j of the other are there.
    """
    i, j = place
    if is_meeting(one, other, place):
        return {one[i]: (i + 1, j + 1)}
    steps = {}
    if i < len(one):
        steps[one[i]] = (i + 1, j)
    if j < len(other):
        steps[other[j]] = (i, j + 1)
    return steps


def is_meeting(one, other, place):
    """Whether the next items of both lists are alike at a place."""
    i, j = place
    return i < len(one) and j < len(other) and one[i] == other[j]


def all_places(one, other):
    """The list of all places, ascending, whether they can come or not."""
    return [(i, j) for i in range(len(one) + 1) for j in range(len(other) + 1)]


def places_left(one, other, greatest):
    """The dict from all places to the greatest, or the least, number of writes that are left."""
    left = {}
    # each step leads to a greater place
    for place in reversed(all_places(one, other)):
        numbers = [left[behind] + 1 for behind in list_steps(one, other, place).values()]
        left[place] = max(numbers, default=0) if greatest else min(numbers, default=0)
    return left


def row_of_places(one, other, left):
    """The first row of writes each of which makes what is left one less, until nothing is left."""
    row = []
    place = (0, 0)
    while left[place] > 0:
        steps = list_steps(one, other, place)
        block = min([step for step, behind in steps.items() if left[behind] == left[place] - 1])
        row.append(block)
        place = steps[block]
    return tuple(row)


def met(one, other):
    """The ascending list of the meetings of two lists that are right."""
    found = {(0, 0): True}
    pairs = []
    for place in all_places(one, other):
        if place not in found:
            continue
        for behind in list_steps(one, other, place).values():
            found[behind] = True
        if is_meeting(one, other, place):
            pairs.append(place)
    return pairs


def meetings(one, other):
    """The ascending list of the meetings."""
    check_lists(one, other)
    return met(one, other)


def fewest_lists(one, other):
    """The least number of writes until both lists are done."""
    check_lists(one, other)
    return places_left(one, other, False)[(0, 0)]


def most_lists(one, other):
    """The greatest number of writes, none in vain, until both lists are done."""
    check_lists(one, other)
    return places_left(one, other, True)[(0, 0)]


def least_row(one, other):
    """The first of the shortest rows of writes."""
    check_lists(one, other)
    return row_of_places(one, other, places_left(one, other, False))


def mirrors_meet(one, other, thing, pairs):
    """Whether a thing is mirrors that meet at just the pairs of all meetings, which ascend.

    Each item of ascending numbers is no less than its place. And where lists meet their items
    are alike: so they are mirrored wherever all the pairs are meetings.
    """
    if not is_lot_below(min(len(one), len(other)), thing):
        return False
    places = [(i, first + last - i) for first, last in enumerate(thing) for i in range(first, last + 1)]
    return sorted(places) == pairs


def mirrors_of(one, other):
    """The mirrors at which just all meetings of two right lists lie, or None.

    All pairs of a mirror have one sum, which is greater from mirror to mirror: so the sums
    of the meetings tell the only mirrors that there can be.
    """
    pairs = met(one, other)
    sums = sorted({i + j for i, j in pairs})
    told = tuple([total - at for at, total in enumerate(sums)])
    return told if mirrors_meet(one, other, told, pairs) else None


def mirrors(one, other):
    """The mirrors at which just all meetings lie, or None."""
    check_lists(one, other)
    return mirrors_of(one, other)


def is_mirrors(one, other, thing):
    """Whether a thing is mirrors at which just all meetings lie."""
    check_lists(one, other)
    return mirrors_meet(one, other, thing, met(one, other))


def list_parting(one, other):
    """Two willing rows from nothing to all, the first one shorter, or None if all are equally long."""
    check_lists(one, other)
    least = places_left(one, other, False)
    greatest = places_left(one, other, True)
    if least[(0, 0)] == greatest[(0, 0)]:
        return None
    return row_of_places(one, other, least), row_of_places(one, other, greatest)


def is_power_above(bound, base, exponent):
    """Whether a power is above a bound; the exponent may be of many figures."""
    power = 1
    at = 0
    # powers of 0 and 1 never grow
    while base > 1 and at < exponent and power <= bound:
        power *= base
        at += 1
    return power > bound


def lists_below(size, letters):
    """The list of all lists of so many items below a number of letters."""
    rows = [()]
    at = 0
    # there may be none long before a size of many figures is reached
    while at < size and rows:
        rows = [row + (item,) for row in rows for item in range(letters) if row[-1:] != (item,)]
        at += 1
    return rows


def many_even(one, size, letters):
    """How many lists of so many items below a number of letters there are that have mirrors with the one."""
    check_list(one, "one")
    if not is_number(size) or not is_number_below(MOST_BLOCKS + 1, letters):
        raise NoNumber()
    if is_power_above(MOST_LISTS, letters, size):
        raise TooMany(MOST_LISTS)
    return len([row for row in lists_below(size, letters) if mirrors_of(one, row) is not None])
