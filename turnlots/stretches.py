"""Stretches: wishes known only from low to high, and what holds in all or in some of their worlds."""

from turnlots.book import best_lots, is_best
from turnlots.checks import check_thing, is_int, is_list, lot_of
from turnlots.critical import critical
from turnlots.errors import BadStretch, TooMany
from turnlots.lots import others_of
from turnlots.masks import mask_of, mask_sums
from turnlots.wishes import Wish


def is_stretch(row):
    """True if the row is a tuple or list of two integers, the first one not above the second."""
    return is_list(row) and len(row) == 2 and is_int(row[0]) and is_int(row[1]) and row[0] <= row[1]


def stretch_rows(rows, size):
    """The rows as tuples. The size None asks only that there is one."""
    if not is_list(rows):
        raise BadStretch(-1)
    if len(rows) == 0 or (size is not None and len(rows) != size):
        raise BadStretch(-2)
    for place, row in enumerate(rows):
        if not is_stretch(row):
            raise BadStretch(place)
    return tuple([tuple(row) for row in rows])


class Stretches:
    """The low and the high number of each of one or more things. A Stretches never changes."""

    def __init__(self, rows):
        self.rows = stretch_rows(rows, None)

    def __len__(self):
        return len(self.rows)

    def __iter__(self):
        return iter(self.rows)

    def unseen(self):
        """The things whose low and high are not equal."""
        return tuple([thing for thing, row in enumerate(self.rows) if row[0] != row[1]])

    @property
    def settled(self):
        """True if all things are seen."""
        return all([row[0] == row[1] for row in self.rows])


def rows_of(stretches, size):
    """The rows of a Stretches or of a tuple or list of rows. The size None takes any number of them."""
    rows = stretches.rows if isinstance(stretches, Stretches) else stretches
    return stretch_rows(rows, size)


def high_on(rows, lot):
    """The Wish that is high on the things of the lot and low on all others."""
    numbers = [row[1] if thing in lot else row[0] for thing, row in enumerate(rows)]
    return Wish(*numbers)


def world_high(stretches, *, high=()):
    """The Wish of the world that is high on the lot high."""
    rows = rows_of(stretches, None)
    return high_on(rows, lot_of(high, len(rows)))


def own_world(stretches, lot):
    """The Wish that is low on the things of the lot and high on all others."""
    rows = rows_of(stretches, None)
    return high_on(rows, others_of(lot_of(lot, len(rows)), len(rows)))


def check_count(rows):
    """Raises TooMany if there are more than 3000 worlds."""
    count = 1
    for low, high in rows:
        count = count * (high - low + 1)
    if count > 3000:
        raise TooMany("worlds")


def next_numbers(rows, numbers):
    """The numbers of the world behind this one, None if it is the last one."""
    for place in reversed(range(len(rows))):
        if numbers[place] < rows[place][1]:
            return numbers[:place] + [numbers[place] + 1] + [low for low, _ in rows[place + 1:]]
    return None


def worlds(stretches):
    """Yields all worlds, each a Wish, in ascending order of their numbers."""
    rows = rows_of(stretches, None)
    check_count(rows)
    numbers = [low for low, _ in rows]
    while numbers is not None:
        yield Wish(*numbers)
        numbers = next_numbers(rows, numbers)


def is_safe(family, stretches, lot):
    """True if the lot of the family is best in every world."""
    rows = rows_of(stretches, family.size)
    row = lot_of(lot, family.size)
    # no other world is worse for this lot against any other one
    return is_best(family, own_world(rows, row), row)


def is_possible(family, stretches, lot):
    """True if the lot of the family is best in some world."""
    rows = rows_of(stretches, family.size)
    row = lot_of(lot, family.size)
    # no other world is better for this lot against any other one
    return is_best(family, high_on(rows, row), row)


def safe_lots(family, stretches):
    """The list of the lots of the family that are best in every world."""
    rows = rows_of(stretches, family.size)
    numbers = [low + high for low, high in rows]
    # Twice the middle world. If a safe lot has another best lot beside it here, that one would be
    # better in some world if they were apart in an unseen thing; so it is as good in all worlds.
    lots = best_lots(family, numbers)
    return lots if is_safe(family, rows, lots[0]) else []


def greatest_lead(lots, others, lows, widths):
    """The greatest difference, over all worlds, of the best of lots and the best of others.

    lots and others are masks; lows and widths are the sums of low and of high - low by masks.
    """
    # the world that is high on a lot, and low elsewhere, is the best one for it against each other lot
    return max([
        lows[lot] + widths[lot] - max([lows[other] + widths[other & lot] for other in others])
        for lot in lots
    ])


def ends(family, stretches, thing):
    """The least and the greatest critical wish of the thing, None if it is fixed."""
    rows = rows_of(stretches, family.size)
    check_thing(thing, family.size)
    if thing not in family.loose():
        return None
    # the number of the thing itself does not count
    rest = [row if place != thing else (0, 0) for place, row in enumerate(rows)]
    lows = mask_sums([low for low, _ in rest])
    widths = mask_sums([high - low for low, high in rest])
    lacking = [mask_of(lot) for lot in family.lots if thing not in lot]
    having = [mask_of(lot) for lot in family.lots if thing in lot]
    return -greatest_lead(having, lacking, lows, widths), greatest_lead(lacking, having, lows, widths)


def side_ends(family, stretches, thing, side):
    """The critical wishes of the thing in two worlds: low on its side and high elsewhere, and the
    other way round. None if it is fixed.
    """
    rows = rows_of(stretches, family.size)
    check_thing(thing, family.size)
    row = lot_of(side, family.size)
    if thing not in family.loose():
        return None
    others = others_of(row, family.size)
    near, far = (row, others) if thing in row else (others, row)
    return critical(family, high_on(rows, far), thing), critical(family, high_on(rows, near), thing)
