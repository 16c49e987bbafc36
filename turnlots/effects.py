"""How wishes of one thing move the critical wish of another one in a gated family."""

from turnlots.bonds import are_mates, are_rivals, bond_lots, showing_wish
from turnlots.breaks import needs_gated
from turnlots.checks import check_two, is_int, is_list, lot_of
from turnlots.critical import critical
from turnlots.errors import BadNumber
from turnlots.sides import is_right, wrong_bond
from turnlots.stretches import Stretches
from turnlots.wishes import wish_of

# What crossed gives by some wishes, by how the one thing moves the other one.
CROSSINGS = {"up": "less", "down": "more", "both": "both", "none": "equal"}


def check_effect(family, x, y):
    """Raises an error unless these are two things of a gated family."""
    check_two(x, y, family.size)
    needs_gated(family)


def moves(family, x, y):
    """How the critical wish of x can move as the number of y rises: "up", "down", "both" or "none"."""
    check_effect(family, x, y)
    rivals, mates = are_rivals(family, x, y), are_mates(family, x, y)
    if rivals and mates:
        return "both"
    return "up" if rivals else "down" if mates else "none"


def crossing(family, x, y):
    """What crossed gives for x and y by some wishes: "less", "more", "both", or only "equal".

    None if one of the two things is fixed.
    """
    check_effect(family, x, y)
    loose = family.loose()
    if x not in loose or y not in loose:
        return None
    return CROSSINGS[moves(family, x, y)]


def check_trail(numbers):
    """Raises BadNumber unless the numbers are a tuple or list of integers."""
    if not is_list(numbers) or not all([is_int(number) for number in numbers]):
        raise BadNumber("numbers")


def trail(family, wish, thing, other, numbers):
    """The list of the critical wishes of thing, with each of the numbers as that of other."""
    asked = wish_of(wish, family.size)
    check_two(thing, other, family.size)
    check_trail(numbers)
    needs_gated(family)
    return [critical(family, asked.put(other, number), thing) for number in numbers]


def worlds_tell(family, lot):
    """True if the worlds of the sides that the lot gives tell the ends for all stretches."""
    row = lot_of(lot, family.size)
    needs_gated(family)
    return is_right(family, row)


def wrong_world(family, lot):
    """Stretches with one unseen thing, and a thing whose ends the worlds of its side do not tell.

    None if the lot is right.
    """
    row = lot_of(lot, family.size)
    needs_gated(family)
    found = wrong_bond(family, row)
    if found is None:
        return None
    x, y, word = found
    seen = showing_wish(family, bond_lots(family, x, y, sort=word)[0], x, y)
    # From 1 to 2, up or down, the wish of y stays the reason of the critical wish of x, which
    # follows it to both ends; a lot that is wrong for the bond takes these ends for each other.
    rows = [(number, number) for number in seen]
    rows[y] = (1, 2) if seen[y] > 0 else (-2, -1)
    return Stretches(rows), x
