"""Refused pairs and forced things. All functions take any family."""

from turnlots.errors import NoLot
from turnlots.met import Pair, is_kept, signed_pair
from turnlots.reaches import all_pairs


def least_refused(family):
    """The list of the least refused pairs."""
    pairs = all_pairs(family.size)
    kept = {(pair.wanted, pair.unwanted): is_kept(family, pair) for pair in pairs}
    least = []
    for pair in pairs:
        smaller = [pair.without(thing) for thing in pair.wanted + pair.unwanted]
        if not kept[(pair.wanted, pair.unwanted)]:
            if all([kept[(less.wanted, less.unwanted)] for less in smaller]):
                least.append(pair)
    return least


def keeping_lots(family, asked):
    """The lots of the family that keep a Pair of its things."""
    lots = [lot for lot in family.lots if lot in asked]
    if not lots:
        raise NoLot()
    return lots


def other_things(family, asked):
    """The things of the family that are not in a Pair."""
    return [x for x in range(family.size) if x not in asked.wanted + asked.unwanted]


def forced(family, pair):
    """The Pair of the other things that all lots have that keep the pair, or that none has."""
    asked = signed_pair(pair, family.size)
    lots = keeping_lots(family, asked)
    others = other_things(family, asked)
    return Pair(
        [x for x in others if all([x in lot for lot in lots])],
        [x for x in others if not any([x in lot for lot in lots])],
    )


def free_after(family, pair):
    """The other things that some, but not all of the lots have that keep the pair."""
    asked = signed_pair(pair, family.size)
    settled = forced(family, asked)
    others = other_things(family, asked)
    return tuple([x for x in others if x not in settled.wanted + settled.unwanted])
