"""Checks of arguments: integers, lots, things, numbers and pairs of lots."""

from turnlots.errors import BadLot, BadNumber, BadPair, BadThing


def is_int(value):
    """True if value is an int that is not True or False."""
    return isinstance(value, int) and not isinstance(value, bool)


def is_list(value):
    """True if value is a tuple or a list."""
    return isinstance(value, (tuple, list))


def wrong_entry(things, size):
    """The place of the first entry of a tuple or list that makes it no lot, None if it is a lot.

    The size None bounds no thing.
    """
    for place, thing in enumerate(things):
        if not is_int(thing) or thing < 0 or thing in things[:place]:
            return place
        if size is not None and thing >= size:
            return place
    return None


def is_lot(lot, size):
    """True if lot is a lot of things 0 to size - 1, in any order."""
    return is_list(lot) and wrong_entry(lot, size) is None


def lot_of(lot, size):
    """The lot of things 0 to size - 1 as an ascending tuple."""
    if not is_list(lot):
        raise BadLot(-1)
    place = wrong_entry(lot, size)
    if place is not None:
        raise BadLot(place)
    return tuple(sorted(lot))


def unbounded_lot(lot):
    """The lot as an ascending tuple, without a greatest thing."""
    return lot_of(lot, None)


def is_thing(value, size):
    """True if value is one of the things 0 to size - 1."""
    return is_int(value) and 0 <= value < size


def check_thing(thing, size):
    """The thing, if it is one of 0 to size - 1."""
    if not is_thing(thing, size):
        raise BadThing(thing)
    return thing


def check_two(thing, other, size):
    """Raises BadThing unless the two are different things of 0 to size - 1."""
    check_thing(thing, size)
    if check_thing(other, size) == thing:
        raise BadThing(other)


def check_loose(family, thing):
    """The thing, if it is a loose thing of the family."""
    if check_thing(thing, family.size) not in family.loose():
        raise BadThing(thing)
    return thing


def check_any_thing(thing):
    """The thing, if it is an integer of 0 or more."""
    if not is_int(thing) or thing < 0:
        raise BadThing(thing)
    return thing


def check_number(number, name, least):
    """The number, if it is an integer of least or more."""
    if not is_int(number) or number < least:
        raise BadNumber(name)
    return number


def check_any_number(number, name):
    """The number, if it is an integer."""
    if not is_int(number):
        raise BadNumber(name)
    return number


def check_size(size):
    """The size of a family, if it is an integer from 1 to 10."""
    if not is_int(size) or not 1 <= size <= 10:
        raise BadNumber("size")
    return size


def pair_of(pair, size):
    """The two lots of a signed pair as ascending tuples, the wanted one first.

    The size None bounds no thing.
    """
    if not is_list(pair) or len(pair) != 2:
        raise BadPair(-1)
    wanted = lot_of(pair[0], size)
    unwanted = lot_of(pair[1], size)
    common = [thing for thing in wanted if thing in unwanted]
    if common:
        raise BadPair(common[0])
    return wanted, unwanted
