"""Critical wishes: the wish at which a thing comes in."""

from turnlots.book import best_lots
from turnlots.breaks import find_break
from turnlots.checks import check_thing
from turnlots.wishes import wish_for, wish_of, worth_at


def critical(family, wish, thing):
    """The critical wish of the thing, None for a fixed thing."""
    numbers = wish_of(wish, family.size).numbers
    check_thing(thing, family.size)
    lacking = [worth_at(numbers, lot) for lot in family.lots if thing not in lot]
    having = [worth_at(numbers, lot) for lot in family.lots if thing in lot]
    if not lacking or not having:
        return None
    return max(lacking) - (max(having) - numbers[thing])


class Critical:
    """The critical wishes of one thing of a family, as an object that is called with a wish."""

    def __init__(self, family, thing):
        self.family = family
        self.thing = check_thing(thing, family.size)

    def __call__(self, wish):
        return critical(self.family, wish, self.thing)


def enters(family, wish, thing):
    """Which of "in", "out" and "either" is the case: all, none or some best lots have the thing."""
    lots = best_lots(family, wish)
    check_thing(thing, family.size)
    having = [lot for lot in lots if thing in lot]
    if len(having) == len(lots):
        return "in"
    return "either" if having else "out"


def reasons(family, wish, thing):
    """The list of the reasons of the critical wish of the thing."""
    numbers = wish_of(wish, family.size).numbers
    # None for a fixed thing: no number is equal to it
    value = critical(family, wish, thing)
    found = [(-1, 0)] if value == 0 else []
    for other, number in enumerate(numbers):
        for sign in (1, -1):
            if other != thing and sign * number == value:
                found.append((other, sign))
    return found


def unreasoned(family):
    """A Wish and a loose thing whose critical wish has no reason, None if the family is gated."""
    found = find_break(family)
    if found is None:
        return None
    inner, other, thing = found
    apart = [x for x in range(family.size) if (x in inner) != (x in other) and x != thing]
    order = apart + [x for x in range(family.size) if x not in apart]
    # To exchange a thing at inner costs a power of two of its own. So the critical wish is, but for
    # its sign, the least cost of what must be exchanged with the thing: by the break two or more
    # other things, and none outside of apart, as all of apart together cost less.
    values = [0 if x == thing else 1 << order.index(x) for x in range(family.size)]
    return wish_for(inner, values), thing
