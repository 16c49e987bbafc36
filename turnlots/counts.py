"""Depth lists, totals and shortfalls, and rows of integers added and multiplied."""

from turnlots.checks import check_loose, is_int, is_list
from turnlots.errors import BadTable
from turnlots.masks import depth_row
from turnlots.reaches import all_pairs
from turnlots.small import in_of, out_of, small_table


def tally(depths):
    """How many of the depths are 0, 1, 2 and so on up to the greatest one, a tuple."""
    counts = [0 for _ in range(max(depths) + 1)]
    for depth in depths:
        counts[depth] += 1
    return tuple(counts)


def depth_list(family):
    """How many lots of things have the depth 0, 1, 2 and so on, a tuple."""
    return tally(depth_row(family))


def total(family):
    """The sum of the depths of all lots of things."""
    return sum(depth_row(family))


def shortfall_at(family, thing):
    """The shortfall of a loose thing; raises BadNumber if nothing is left without it."""
    return total(out_of(family, thing)) + total(in_of(family, thing)) - total(family)


def shortfall(family, thing):
    """The total of out thing plus the total of in thing less the total of the family."""
    return shortfall_at(family, check_loose(family, thing))


def short_thing(family):
    """The least loose thing with a shortfall other than 0, None if there is none."""
    for thing in family.loose():
        if shortfall_at(family, thing) != 0:
            return thing
    return None


def short_table(family):
    """The pair of the first small table with a shortfall other than 0 and the least thing there
    that has one, None if there is no such small table.
    """
    for pair in all_pairs(family.size):
        has_lots = any([lot in pair for lot in family.lots])
        if has_lots and len(pair) <= family.size - 2:
            thing = short_thing(small_table(family, inside=pair.wanted, out=pair.unwanted))
            if thing is not None:
                return (pair.wanted, pair.unwanted), thing
    return None


def check_row(row):
    """Raises BadTable unless the row is a tuple or list of integers."""
    if not is_list(row):
        raise BadTable(-1)
    for place, entry in enumerate(row):
        if not is_int(entry):
            raise BadTable(place)


def entry_at(row, place):
    """The entry of the row, 0 behind its end."""
    return row[place] if place < len(row) else 0


def added(one, other):
    """The sums of the entries of two rows, a tuple."""
    check_row(one)
    check_row(other)
    places = range(max(len(one), len(other)))
    return tuple([entry_at(one, place) + entry_at(other, place) for place in places])


def multiplied(one, other):
    """The product of two rows as sums of powers, a tuple."""
    check_row(one)
    check_row(other)
    if len(one) == 0 or len(other) == 0:
        return ()
    products = [0 for _ in range(len(one) + len(other) - 1)]
    for i, entry in enumerate(one):
        for j, factor in enumerate(other):
            products[i + j] += entry * factor
    return tuple(products)


def pushed(row):
    """The row with a 0 before it, a tuple."""
    check_row(row)
    return tuple([0] + list(row))
