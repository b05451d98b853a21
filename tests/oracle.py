"""What the tests compare with: the document's definitions, done plainly, with sets."""

from itertools import combinations, product

from ripewaves.bench import Bench
from ripewaves.books import Book
from ripewaves.cache import Cache
from ripewaves.errors import BadBook, NoChange, WaveError
from ripewaves.records import Records
from ripewaves.shell import Shell


def deep(make, many):
    """A thing nested so many deep."""
    thing = make(None)
    for _ in range(many - 1):
        thing = make(thing)
    return thing


def odd_things():
    """Things of many kinds; none of them is a number from 0 to 9999, a lot or a row."""
    return [
        None, True, False, -1, 10 ** 59, -(10 ** 59), "", "0", "ring", b"", b"0", bytearray(b"0"),
        [], [0], [0, 1], [[0, 1]], {}, {0: 1}, {"a": [0]}, (None,), (True,), (False,), (-1,), ("0",),
        ((0,),), ([],), ([0],), ({},), (0, True), (0, None), (10 ** 59,), ((),), ((0, 1),),
        range(2), slice(0), Ellipsis, NotImplemented, len, int, tuple, Book, NoChange, object(),
        memoryview(b"0"), iter(()), lambda: 0, Book((), ()), (Book((0,), ()),), [Book((0,), ())],
        BadBook("ring"), NoChange(), Cache((1,)), Records((1,)), Shell((1,)), (Bench(),), Bench(),
        deep(lambda inner: (inner,), 40), deep(lambda inner: [inner], 40),
        deep(lambda inner: {"a": inner}, 40), deep(lambda inner: (0, inner), 40),
        tuple([None] * 19999), [0] * 19999, tuple([-1] * 19999),
    ]


class Dice:
    """Numbers that look thrown but are the same at each run."""

    def __init__(self, seed):
        self.state = seed

    def below(self, bound):
        self.state = (self.state * 6364136223846793005 + 1442695040888963407) % 2 ** 64
        return (self.state >> 33) % bound


def thrown_book(dice, most_changes, most_blocks):
    """A book of at most so many changes and blocks, the needs not only downwards."""
    many = dice.below(most_changes + 1)
    blocks = tuple(dice.below(most_blocks) for _ in range(many))
    rank = list(range(many))
    for at in range(many - 1, 0, -1):
        to = dice.below(at + 1)
        rank[at], rank[to] = rank[to], rank[at]
    share = 1 + dice.below(6)
    needs = [(a, b) for a in range(many) for b in range(many) if rank[a] > rank[b] and dice.below(6) < share]
    return Book(blocks, tuple(needs))


def thrown_books(seed, many, most_changes, most_blocks):
    dice = Dice(seed)
    return [thrown_book(dice, most_changes, most_blocks) for _ in range(many)]


def small_books():
    """All books of at most three changes in blocks 0 and 1."""
    books = []
    for many in range(4):
        pairs = [(a, b) for a in range(many) for b in range(many) if a != b]
        for blocks in product((0, 1), repeat=many):
            for size in range(len(pairs) + 1):
                for needs in combinations(pairs, size):
                    if not has_ring(many, needs):
                        books.append(Book(blocks, needs))
    return books


def reach(many, needs):
    """For each change the set of all that it needs, however far."""
    far = [set() for _ in range(many)]
    grown = True
    while grown:
        grown = False
        for change, other in needs:
            more = far[change] | far[other] | {other}
            if more != far[change]:
                far[change] = more
                grown = True
    return far


def has_ring(many, needs):
    far = reach(many, needs)
    return any(change in far[change] for change in range(many))


def all_lots(many):
    return [lot for size in range(many + 1) for lot in combinations(range(many), size)]


def closed(book, lot):
    return all(other in lot for change, other in book.needs if change in lot)


def bring(book, standing, block):
    """The greatest lot of a block's changes that can come: what can't is taken away till all can."""
    lot = {c for c, b in enumerate(book.blocks) if b == block and c not in standing}
    while True:
        bad = {c for c, other in book.needs if c in lot and other not in standing and other not in lot}
        if not bad:
            return tuple(sorted(lot))
        lot -= bad


def behind(book, standing, block):
    return tuple(sorted(standing + bring(book, standing, block)))


def blocks_of(book):
    return sorted(set(book.blocks))


def reached(book, standing=()):
    """All standings to which writes lead from a standing, fewest first."""
    seen = {standing}
    waiting = [standing]
    while waiting:
        there = waiting.pop()
        for block in blocks_of(book):
            onward = behind(book, there, block)
            if onward not in seen:
                seen.add(onward)
                waiting.append(onward)
    return sorted(seen, key=lambda lot: (len(lot), lot))


def willing_rows(book, standing=()):
    """All willing rows from a standing to all."""
    if len(standing) == len(book.blocks):
        return [()]
    rows = []
    for block in blocks_of(book):
        onward = behind(book, standing, block)
        if onward != standing:
            rows.extend((block,) + row for row in willing_rows(book, onward))
    return rows


def all_rows(book, standing):
    """All rows from a standing each of whose writes brings something, with the standings to which they lead."""
    rows = [((), standing)]
    for block in blocks_of(book):
        onward = behind(book, standing, block)
        if onward != standing:
            rows.extend(((block,) + row, end) for row, end in all_rows(book, onward))
    return rows


def ripe_blocks(book, standing):
    return [block for block in blocks_of(book) if bring(book, standing, block)]


def two_bring(book, standing, one, other):
    """All that comes when two blocks alone are written, again and again."""
    there = standing
    while True:
        onward = behind(book, behind(book, there, one), other)
        if onward == there:
            return [change for change in there if change not in standing]
        there = onward


def turn_rows_from(book, far, area, change):
    """All to-and-fro rows of changes of an area that begin with a change."""
    rows = [(change,)]
    for other in area:
        if book.blocks[other] != book.blocks[change] and change in far[other]:
            rows.extend((change,) + row for row in turn_rows_from(book, far, area, other))
    return rows


def turn_rows_of(book, area, begin):
    """All to-and-fro rows of changes of an area of two blocks that begin in a block."""
    far = reach(len(book.blocks), book.needs)
    return [row for change in area if book.blocks[change] == begin for row in turn_rows_from(book, far, area, change)]


def plain_to_and_fro(book, standing, one, other):
    area = two_bring(book, standing, one, other)
    return tuple(max(len(row) for row in turn_rows_of(book, area, begin)) for begin in (one, other))


def plain_day(book, lot):
    far = reach(len(book.blocks), book.needs)
    needs = [(a, b) for a, c in enumerate(lot) for b, d in enumerate(lot) if d in far[c]]
    return Book(tuple(book.blocks[change] for change in lot), tuple(needs))


def plain_latecomers(book):
    many = len(book.blocks)
    far = reach(many, book.needs)
    return [
        (v, u, x) for v in range(many) for u in range(many) for x in range(many)
        if u in far[v] and book.blocks[v] == book.blocks[x] != book.blocks[u] and x not in far[u] and u not in far[x]
    ]


def row_lengths(book):
    """The ascending list of the lengths of the willing rows from nothing to all."""
    return sorted({len(row) for row in willing_rows(book)})


def outcome(function, *given):
    """What a call returns, or the class of the error of this package that it raises, and the error's fields."""
    try:
        return function(*given)
    except WaveError as error:
        return type(error), vars(error)


def arm(book, order, turns):
    """The lots that an arm brings, sweep by sweep, going step by step until all is there."""
    there = ()
    way = list(order)
    lots = []
    while len(there) < len(book.blocks):
        ahead = there
        for block in way:
            there = behind(book, there, block)
        lots.append(tuple(change for change in there if change not in ahead))
        if turns:
            way.reverse()
    return lots


def needs_rows(far, change):
    """All rows of needs that end with a change, gone through."""
    return [(change,)] + [row + (change,) for other in sorted(far[change]) for row in needs_rows(far, other)]


def all_needs_rows(book):
    far = reach(len(book.blocks), book.needs)
    return [row for change in range(len(book.blocks)) for row in needs_rows(far, change)]


def plain_steps_back(book, order, row):
    places = [order.index(book.blocks[change]) for change in row]
    return sum(1 for one, other in zip(places, places[1:]) if other < one)


def plain_turns(book, order, row):
    """An arm that sets out in the order goes along the row."""
    places = [order.index(book.blocks[change]) for change in row]
    way, turns = 1, 0
    for one, other in zip(places, places[1:]):
        if (other - one) * way < 0:
            way, turns = -way, turns + 1
    return turns


def thrown_order(dice, book):
    order = blocks_of(book)
    for at in range(len(order) - 1, 0, -1):
        to = dice.below(at + 1)
        order[at], order[to] = order[to], order[at]
    return tuple(order)


def closed_lots(book):
    """All standings, whether writes lead to them or not."""
    return [lot for lot in all_lots(len(book.blocks)) if closed(book, lot)]


def plain_log(book, row):
    """The pairs of the blocks of a row and what they bring."""
    there = ()
    pairs = []
    for block in row:
        pairs.append((block, bring(book, there, block)))
        there = behind(book, there, block)
    return tuple(pairs)


def all_books(blocks):
    """All books of some blocks."""
    many = len(blocks)
    pairs = [(a, b) for a in range(many) for b in range(many) if a != b]
    found = []
    for size in range(len(pairs) + 1):
        for needs in combinations(pairs, size):
            if not has_ring(many, needs):
                found.append(Book(blocks, needs))
    return found


def books_by_log(blocks):
    """For each log of some blocks the books that make it."""
    table = {}
    for book in all_books(blocks):
        for row in willing_rows(book):
            table.setdefault(plain_log(book, row), []).append(book)
    return table


# eleven blocks of one change each: 2048 standings can come
WIDE = Book(tuple(range(11)), ())
# a chain of two hundred changes
CHAIN = Book(tuple(k % 3 for k in range(200)), tuple((k, k - 1) for k in range(1, 200)))
