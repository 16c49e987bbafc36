"""Things merged, families joined, and families glued over pairs of things."""

from turnlots.checks import check_two, is_list, is_thing
from turnlots.errors import BadNumber, BadPair, NoLot, TooMany
from turnlots.families import Family
from turnlots.lots import exchanged
from turnlots.small import dropped_rows, renumbered


def merge(family, u, v):
    """The family with u and v made one thing, which a lot has if it had exactly one of the two."""
    check_two(u, v, family.size)
    low, high = min(u, v), max(u, v)
    # the lesser thing is exchanged in each lot that has the greater one, which then is forgotten
    moved = [exchanged(lot, (low,), family.size) if high in lot else lot for lot in family.lots]
    return dropped_rows(family, moved, (high,))


def join(family, other):
    """The join of two families of one size."""
    return family + other


def check_pairs(one, other, pairs):
    """Raises BadPair unless these are pairs of a thing of one and a thing of other, none twice."""
    if not is_list(pairs):
        raise BadPair(-1)
    for place, pair in enumerate(pairs):
        if not is_list(pair) or len(pair) != 2:
            raise BadPair(place)
        if not is_thing(pair[0], one.size) or not is_thing(pair[1], other.size):
            raise BadPair(place)
        if any([pair[0] == before[0] or pair[1] == before[1] for before in pairs[:place]]):
            raise BadPair(place)


def rests_by(family, dropped):
    """What is left of the lots of the family without the dropped things, the others renumbered: by
    which of the dropped things the lots have.
    """
    rests = {}
    for lot in family.lots:
        rest = [renumbered(thing, dropped) for thing in lot if thing not in dropped]
        rests.setdefault(tuple([thing in lot for thing in dropped]), []).append(rest)
    return rests


def glue_over(one, other, pairs):
    """The two families glued over pairs of a thing of one and a thing of other."""
    check_pairs(one, other, pairs)
    left = one.size - len(pairs)
    size = left + other.size - len(pairs)
    if size == 0:
        raise BadNumber("size")
    if size > 10:
        raise TooMany("things")
    rests = rests_by(one, [pair[0] for pair in pairs])
    others = rests_by(other, [pair[1] for pair in pairs])
    lots = sorted({
        tuple(rest + [left + thing for thing in more])
        for key in rests for rest in rests[key] for more in others.get(key, [])
    })
    if not lots:
        raise NoLot()
    return Family(size, lots)
