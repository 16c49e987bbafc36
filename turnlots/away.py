"""The lots within a depth of a family, and those just at a gap to one of its lots."""

from turnlots.checks import check_number
from turnlots.errors import BadNumber
from turnlots.families import Family
from turnlots.masks import depth_row, family_masks, lot_from, lots_from, thing_counts


def within(family, number):
    """The family of all lots of things with a depth of at most the number."""
    check_number(number, "number", 0)
    depths = depth_row(family)
    return Family(family.size, [lot_from(mask) for mask, depth in enumerate(depths) if depth <= number])


def just_at(family, number):
    """The family of all lots of things with the number as the gap to at least one lot."""
    if check_number(number, "number", 0) > family.size:
        raise BadNumber("number")
    turns = [mask for mask, count in enumerate(thing_counts(family.size)) if count == number]
    masks = sorted({mask ^ turn for mask in family_masks(family) for turn in turns})
    return Family(family.size, lots_from(masks))
