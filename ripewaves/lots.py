"""Numbers, lots, and lots as masks.

A mask is a number whose bit c tells whether change c is in the lot: lots of
changes are joined and compared again and again, and masks do that at once.
"""

from math import gcd


def is_integer(thing):
    """Whether a thing is an integer; a flag is none."""
    return isinstance(thing, int) and not isinstance(thing, bool)


def is_number(thing):
    """Whether a thing is an integer from 0 on."""
    return is_integer(thing) and thing >= 0


def is_number_below(bound, thing):
    """Whether a thing is a number below a bound."""
    return is_number(thing) and thing < bound


def is_lot_below(bound, thing):
    """Whether a thing is an ascending tuple of numbers below a bound."""
    if not isinstance(thing, tuple):
        return False
    ahead = -1
    for item in thing:
        if not is_number_below(bound, item) or item <= ahead:
            return False
        ahead = item
    return True


def lowest_terms(top, bottom):
    """The quotient of two numbers, the second one not 0, as a pair in lowest terms."""
    shared = gcd(top, bottom)
    return top // shared, bottom // shared


def mask_of(lot):
    """The mask of a lot."""
    mask = 0
    for item in lot:
        mask |= 1 << item
    return mask


def lot_of(mask):
    """The lot that a mask tells."""
    items = []
    while mask:
        lowest = mask & -mask
        items.append(lowest.bit_length() - 1)
        mask ^= lowest
    return tuple(items)


def full_mask(many):
    """The mask of all of so many changes."""
    return (1 << many) - 1


def far_masks(many, needs):
    """For each change the mask of all that it needs, however far, or None if there is a ring.

    A change is done when all that it needs is done; what is left is a ring, or needs one.
    """
    left = [0] * many
    users = [[] for _ in range(many)]
    for change, other in needs:
        left[change] += 1
        users[other].append(change)
    far = [0] * many
    ready = [change for change in range(many) if left[change] == 0]
    done = 0
    while ready:
        other = ready.pop()
        done += 1
        for change in users[other]:
            far[change] |= far[other] | 1 << other
            left[change] -= 1
            if left[change] == 0:
                ready.append(change)
    if done < many:
        return None
    return tuple(far)


def reach_masks(many, needs):
    """For each change the mask of itself and all that it needs, however far; rings may be."""
    reach = [1 << change for change in range(many)]
    for change, other in needs:
        reach[change] |= 1 << other
    for middle in range(many):
        for change in range(many):
            if reach[change] >> middle & 1:
                reach[change] |= reach[middle]
    return reach


def ring_lots(many, needs):
    """The list of the lots of changes that need one another, however far, by their least ones."""
    reach = reach_masks(many, needs)
    lots = []
    taken = 0
    for change in range(many):
        if taken >> change & 1:
            continue
        lot = [other for other in lot_of(reach[change]) if reach[other] >> change & 1]
        taken |= mask_of(lot)
        lots.append(tuple(lot))
    return lots
