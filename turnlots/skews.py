"""Skew tables, their Pfaffians, and the families of the lots whose Pfaffian is not 0."""

from turnlots.checks import check_size, is_int, is_list, lot_of
from turnlots.errors import BadTable
from turnlots.even import web_at
from turnlots.families import Family
from turnlots.lots import all_lots
from turnlots.onelot import fullest_at, inner_even


def is_skew_row(rows, place):
    """True if the row is one of integers that is as long as it must be and fits to itself and to
    those before it.
    """
    row = rows[place]
    if not is_list(row) or len(row) != len(rows) or not all([is_int(entry) for entry in row]):
        return False
    return row[place] == 0 and all([row[other] == -rows[other][place] for other in range(place)])


def check_skew(rows, size):
    """Raises BadTable unless the rows are a skew table of the size; the size None takes any."""
    if not is_list(rows):
        raise BadTable(-1)
    if not 1 <= len(rows) <= 10 or size not in (None, len(rows)):
        raise BadTable(-2)
    for place in range(len(rows)):
        if not is_skew_row(rows, place):
            raise BadTable(place)


def pfaffian_of(rows, things):
    """The Pfaffian of the things, which are in ascending order."""
    if len(things) == 0:
        return 1
    if len(things) & 1:
        return 0
    first, *rest = things
    terms = [
        rows[first][other] * pfaffian_of(rows, rest[:place] + rest[place + 1:])
        for place, other in enumerate(rest)
    ]
    return sum(terms[::2]) - sum(terms[1::2])


def pfaffian(rows, lot):
    """The Pfaffian of the lot in a skew table."""
    check_skew(rows, None)
    return pfaffian_of(rows, lot_of(lot, len(rows)))


def skew_family(size, rows):
    """The Family of all lots whose Pfaffian in the skew table is not 0."""
    check_size(size)
    check_skew(rows, size)
    return Family(size, [lot for lot in all_lots(size) if pfaffian_of(rows, lot) != 0])


def put_entry(rows, x, y, entry):
    """Puts the entry in row x and column y, and its contrary in row y and column x."""
    rows[x][y] = entry
    rows[y][x] = -entry


def vanishing_rows(web, ring):
    """A skew table with an entry other than 0 for each link of the web and for nothing else, such
    that the Pfaffian of the things of the even ring is 0.
    """
    rows = [[0 for _ in range(web.size)] for _ in range(web.size)]
    for x, y in web.links:
        put_entry(rows, x, y, 1)
    for x, y in zip(ring, ring[1:] + ring[:1]):
        put_entry(rows, x, y, 1000)
    # The Pfaffian is entry * factor + rest for the entry of the first link of the ring. Of the
    # pairings that make the factor, and of those that make the rest, just one has links of the ring
    # alone. There are fewer than 1000 others, and each loses a factor of 1000 to it or more: so
    # neither of the two is 0.
    first, second = ring[:2]
    put_entry(rows, first, second, 0)
    rest = pfaffian_of(rows, sorted(ring))
    put_entry(rows, first, second, 1)
    factor = pfaffian_of(rows, sorted(ring)) - rest
    # with the other entries of the first thing taken this many times, the rest is so, too
    for other in web.near_to(first):
        put_entry(rows, first, other, rows[first][other] * factor)
    put_entry(rows, first, second, -rest)
    return rows


def twin_at(family, inner):
    """Another even gated Family that contains the lot and has the same web there, None if the web
    has no even ring.
    """
    row = inner_even(family, inner)
    web = web_at(family, row)
    ring = web.even_ring_in()
    if ring is None:
        return None
    fullest = fullest_at(family, row)
    if fullest != family:
        return fullest
    # the fullest family has the lot of the ring's things, this one lacks it
    return skew_family(family.size, vanishing_rows(web, ring)) ^ row
