"""Small tables: things held in, left out or forgotten; and families grown by a thing."""

from turnlots.checks import check_any_thing, check_thing, lot_of, unbounded_lot
from turnlots.errors import BadNumber, BadPair, BadThing, NoLot, TooMany
from turnlots.families import Family


def check_left(family, dropped):
    """Raises an error if nothing is left when so many things are dropped."""
    if dropped >= family.size:
        raise BadNumber("size")


def dropped_rows(family, lots, dropped):
    """The Family of the lots with the things of the lot dropped taken off, each of them once."""
    left = [thing for thing in range(family.size) if thing not in dropped]
    rows = [tuple([place for place, thing in enumerate(left) if thing in lot]) for lot in lots]
    return Family(len(left), sorted(set(rows)))


def held(family, inside, out):
    """The small table told by two lots of things of the family without a common one."""
    check_left(family, len(inside + out))
    lots = [
        lot for lot in family.lots
        if all([thing in lot for thing in inside]) and not any([thing in lot for thing in out])
    ]
    if not lots:
        raise NoLot()
    return dropped_rows(family, lots, inside + out)


def out_of(family, thing):
    """The family of the lots without the thing."""
    return held(family, (), (check_thing(thing, family.size),))


def in_of(family, thing):
    """The family of the lots with the thing, with the thing taken off."""
    return held(family, (check_thing(thing, family.size),), ())


def forget(family, thing):
    """The family of all lots, with the thing taken off."""
    return forget_all(family, (check_thing(thing, family.size),))


def small_table(family, *, inside=(), out=()):
    """The small table of the lots with all things of the lot inside and none of the lot out."""
    held_in = lot_of(inside, family.size)
    left_out = lot_of(out, family.size)
    common = [thing for thing in held_in if thing in left_out]
    if common:
        raise BadPair(common[0])
    return held(family, held_in, left_out)


def forget_all(family, things):
    """The family of all lots, with the things of the lot taken off."""
    dropped = lot_of(things, family.size)
    check_left(family, len(dropped))
    return dropped_rows(family, family.lots, dropped)


def renumbered(thing, dropped):
    """The number of the thing when the things of the lot dropped are taken off."""
    check_any_thing(thing)
    taken = unbounded_lot(dropped)
    if thing in taken:
        raise BadThing(thing)
    return thing - len([other for other in taken if other < thing])


def moved_up(lots, thing):
    """The lots with a gap left for a new thing: the things from it on go up by one."""
    return [tuple([x + 1 if x >= thing else x for x in lot]) for lot in lots]


def grown(family, thing):
    """The family with a new thing put in as the given one, in each lot and in none."""
    if family.size == 10:
        raise TooMany("things")
    check_thing(thing, family.size + 1)
    moved = moved_up(family.lots, thing)
    return Family(family.size + 1, moved + [lot + (thing,) for lot in moved])
