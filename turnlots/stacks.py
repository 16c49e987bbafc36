"""Families stacked at a thing, and taken apart again."""

from turnlots.checks import check_thing
from turnlots.errors import OtherSize, TooMany
from turnlots.families import Family
from turnlots.small import in_of, moved_up, out_of


def stacked(family, other, thing):
    """The family with a new thing whose out is the first family and whose in is the other one."""
    if family.size == 10:
        raise TooMany("things")
    if other.size != family.size:
        raise OtherSize(other.size)
    check_thing(thing, family.size + 1)
    inside = [lot + (thing,) for lot in moved_up(other.lots, thing)]
    return Family(family.size + 1, moved_up(family.lots, thing) + inside)


def unstacked(family, thing):
    """The families out thing and in thing, a tuple."""
    return out_of(family, thing), in_of(family, thing)
