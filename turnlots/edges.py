"""Wishes with two best lots, and lots that are not best although no bettering shows it."""

from turnlots.book import best_lots
from turnlots.critical import critical, unreasoned
from turnlots.errors import BadNumber
from turnlots.gates import inner_two
from turnlots.wishes import wish_for


def far_best(family):
    """A Wish and its only two best lots, with a gap of more than 2, None if the family is gated."""
    found = unreasoned(family)
    if found is None:
        return None
    wish, thing = found
    # for this wish the lots with the thing have different worths, and so have those without it
    level = wish.put(thing, critical(family, wish, thing))
    one, other = best_lots(family, level)
    return level, one, other


def stuck(family):
    """A Wish and a lot that is not best and has no bettering, None if the family is gated."""
    found = far_best(family)
    if found is None:
        return None
    wish, one, other = found
    thing = min(set_apart(one, other))
    # doubled, so that a change by one lifts the other lot above this one, and no third lot
    doubled = wish.times(2)
    change = 1 if thing in other else -1
    return doubled.put(thing, doubled[thing] + change), one


def set_apart(one, other):
    """The list of the things in which the two lots are apart."""
    return sorted(set(one) ^ set(other))


def two_best_wish(family, one, other):
    """A Wish with just these two best lots, None if there is none."""
    first, second = inner_two(family, one, other)
    apart = set_apart(first, second)
    outside = [x for x in range(family.size) if x not in apart]
    box = [lot for lot in family.lots if all([(x in lot) == (x in first) for x in outside])]
    if len(apart) == 0 or (len(apart) > 2 and len(box) > 2):
        raise BadNumber("gap")
    if len(box) == 4:
        return None
    values = [2 if x in outside else 0 for x in range(family.size)]
    for lot in box:
        if lot != first and lot != second:
            # one of the two things is exchanged to come here: it costs what the other one gains
            for x in apart:
                values[x] = 1 if (x in lot) != (x in first) else -1
    return wish_for(first, values)
