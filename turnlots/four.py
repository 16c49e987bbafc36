"""The four bests of two things, and how they compare crosswise."""

from turnlots.checks import check_two
from turnlots.wishes import wish_of, worth_at


def four_bests(family, wish, thing, other):
    """The best worths with both things, with neither, with the first alone and with the second alone.

    A best is None if no lot of the family is of this kind.
    """
    numbers = wish_of(wish, family.size).numbers
    check_two(thing, other, family.size)
    rows = {kind: [] for kind in ((True, True), (False, False), (True, False), (False, True))}
    for lot in family.lots:
        rows[(thing in lot, other in lot)].append(worth_at(numbers, lot))
    return tuple([max(row, default=None) for row in list(rows.values())])


def crossed(family, wish, thing, other):
    """How both and neither compare with one and the other: "less", "equal" or "more".

    None if one of the two things is fixed.
    """
    both, neither, first, second = four_bests(family, wish, thing, other)
    loose = family.loose()
    if thing not in loose or other not in loose:
        return None
    if both is None or neither is None:
        return "less"
    if first is None or second is None:
        return "more"
    change = both + neither - first - second
    return "more" if change > 0 else "less" if change < 0 else "equal"
