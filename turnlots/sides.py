"""Right lots, and rings of bonds that do not allow any. All functions take any family."""

from turnlots.bonds import bonds
from turnlots.checks import lot_of
from turnlots.masks import lot_from, ordered_masks


def wrong_among(marks, lot):
    """The first of the bonds that the lot does not go with, None if it is right for all of them."""
    for x, y, rivals, mates in marks:
        divided = (x in lot) != (y in lot)
        if rivals and divided:
            return x, y, "rivals"
        if mates and not divided:
            return x, y, "mates"
    return None


def wrong_bond(family, lot):
    """The first two things and the word of their bond that the lot is not right for, None if it is right."""
    row = lot_of(lot, family.size)
    return wrong_among(bonds(family), row)


def is_right(family, lot):
    """True if the lot has both or none of any two rivals, and just one of any two mates."""
    return wrong_bond(family, lot) is None


def right_sides(family):
    """The list of all right lots."""
    marks = bonds(family)
    lots = [lot_from(mask) for mask in ordered_masks(family.size)]
    return [lot for lot in lots if wrong_among(marks, lot) is None]


def right_side(family):
    """The first right lot, None if there is none."""
    lots = right_sides(family)
    return lots[0] if lots else None


def ring_of_ways(way, other):
    """The ring made of two ways from one root, whose ends are joined."""
    shared = len([one for one, two in zip(way, other) if one == two])
    # of the things that both ways have, the ring keeps the last one
    return way[shared - 1:] + other[shared:][::-1]


def odd_cycle(size, odd):
    """A ring of three or more things with an odd number of odd joints, None if there is none.

    odd says of each two joined things, as a tuple in both orders, if their joint is odd.
    """
    # of each thing that is reached: the way to it, and if the number of odd joints on it is odd
    ways = {}
    for root in range(size):
        if root in ways:
            continue
        ways[root] = ((root,), False)
        queue = [root]
        while queue:
            x = queue.pop(0)
            way, is_odd = ways[x]
            joined = [thing for thing in range(size) if (x, thing) in odd]
            for y in joined:
                if y not in ways:
                    ways[y] = (way + (y,), is_odd != odd[(x, y)])
                    queue.append(y)
                elif ways[y][1] != (is_odd != odd[(x, y)]):
                    return ring_of_ways(way, ways[y][0])
    return None


def odd_ring(family):
    """An odd ring of bonds as a list of tuples of two things and a word, None if there is none."""
    odd = {}
    for x, y, rivals, mates in bonds(family):
        if rivals and mates:
            return [(x, y, "rivals"), (y, x, "mates")]
        odd[(x, y)] = mates
        odd[(y, x)] = mates
    ring = odd_cycle(family.size, odd)
    if ring is None:
        return None
    following = ring[1:] + ring[:1]
    return [(x, y, "mates" if odd[(x, y)] else "rivals") for x, y in zip(ring, following)]


def turned_full(family):
    """The first right lot and the family turned by it, None if there is no right lot."""
    side = right_side(family)
    return None if side is None else (side, family ^ side)
