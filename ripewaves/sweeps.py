"""An arm that sweeps over the blocks, always in one order or there and back."""

from itertools import permutations

from ripewaves.books import bared, is_change, is_row_of_needs
from ripewaves.errors import NoChange, NoOrder, NoRow, TooMany
from ripewaves.even import needed_first
from ripewaves.lots import full_mask, is_number

MOST_TO_ORDER = 6


def check_order(book, thing):
    """Raise NoOrder for what is no tuple of all blocks of a book, each once."""
    if not isinstance(thing, tuple) or not all([is_number(block) for block in thing]):
        raise NoOrder()
    if sorted(thing) != sorted(set(book.blocks)):
        raise NoOrder()


def places_in(book, order):
    """The list of the places, in an order, of the blocks of the changes."""
    place = {block: at for at, block in enumerate(order)}
    return [place[block] for block in book.blocks]


def must_turn(place, onward, is_back):
    """Whether an arm at a place, that goes on or back, must turn, or set out anew, for another place."""
    return onward > place if is_back else onward < place


def needs_by_rank(book):
    """The list of pairs of a change and the list of those that it needs itself, each behind all of these.

    The needs of the bared book are enough: whoever goes through what lies between two changes
    steps back, and turns, no less.
    """
    direct = [[] for _ in book.blocks]
    for change, other in bared(book).needs:
        direct[change].append(other)
    return [(change, direct[change]) for change in needed_first(book, full_mask(len(book.blocks)))]


def sweep_rows(ranked, places, turns):
    """The dict from the changes to pairs (number, change ahead), ranked being as of needs_by_rank.

    The number is that of the sweep in which the change comes, from 0 on: as many steps back, or
    turns, has a row of needs that ends with it and goes on from the change ahead, which is None
    where a row of it alone has as many. A sweep brings all of a block whose needs come by
    then, so a change waits just for the last that it needs: that tells both numbers alike.
    """
    rows = {}
    for change, others in ranked:
        number, ahead = 0, None
        for other in others:
            reached = rows[other][0]
            if must_turn(places[other], places[change], turns and reached % 2 == 1):
                reached += 1
            if reached > number:
                number, ahead = reached, other
        rows[change] = (number, ahead)
    return rows


def many_sweeps(rows):
    """How many sweeps there are, by the numbers of the changes."""
    return max([pair[0] for pair in rows.values()], default=-1) + 1


def sweeps_told(book, order, turns):
    """The list of the lots that come, sweep by sweep."""
    check_order(book, order)
    rows = sweep_rows(needs_by_rank(book), places_in(book, order), turns)
    lots = [[] for _ in range(many_sweeps(rows))]
    for change in range(len(book.blocks)):
        lots[rows[change][0]].append(change)
    return [tuple(lot) for lot in lots]


def swept(book, order):
    """The list of the lots that come, sweep by sweep, all blocks being written in the order."""
    return sweeps_told(book, order, False)


def sweep_of(book, order, change):
    """In which sweep, from 1 on, a change comes."""
    check_order(book, order)
    if not is_change(book, change):
        raise NoChange()
    return sweep_rows(needs_by_rank(book), places_in(book, order), False)[change][0] + 1


def turns_along(book, order, row, turns):
    """How often a row of needs steps back, or how often it turns."""
    check_order(book, order)
    if not is_row_of_needs(book, row):
        raise NoRow()
    places = places_in(book, order)
    number = 0
    for at in range(1, len(row)):
        if must_turn(places[row[at - 1]], places[row[at]], turns and number % 2 == 1):
            number += 1
    return number


def steps_back(book, order, row):
    """How often a row of needs steps back."""
    return turns_along(book, order, row, False)


def back_row(book, order):
    """A row of needs with the most steps back, None of a book without changes."""
    check_order(book, order)
    rows = sweep_rows(needs_by_rank(book), places_in(book, order), False)
    if not rows:
        return None
    change = max([(pair[0], last) for last, pair in rows.items()])[1]
    row = []
    while change is not None:
        row.append(change)
        change = rows[change][1]
    return tuple(row[::-1])


def there_and_back(book, order):
    """The list of the lots that come, sweep by sweep, the arm turning about behind each one."""
    return sweeps_told(book, order, True)


def turns_of(book, order, row):
    """How often the arm must turn, going along a row of needs."""
    return turns_along(book, order, row, True)


def best_of_all(book, turns):
    """The first of all orders with the fewest sweeps."""
    blocks = sorted(set(book.blocks))
    if len(blocks) > MOST_TO_ORDER:
        raise TooMany(MOST_TO_ORDER)
    ranked = needs_by_rank(book)
    best, least = None, None
    for order in permutations(blocks):
        many = many_sweeps(sweep_rows(ranked, places_in(book, order), turns))
        if least is None or many < least:
            best, least = order, many
    return best


def best_order(book):
    """The first of the orders with the fewest sweeps."""
    return best_of_all(book, False)


def best_turning(book):
    """The first of the orders with the fewest sweeps there and back."""
    return best_of_all(book, True)
