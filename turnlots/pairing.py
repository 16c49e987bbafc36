"""Lots that pair up in a web, and what is apart in two lots taken in pairs."""

from turnlots.breaks import common_partners
from turnlots.checks import lot_of
from turnlots.even import web_at
from turnlots.families import Family
from turnlots.gates import inner_two
from turnlots.lots import apart
from turnlots.masks import lots_from, mask_of, thing_counts


def without(things, other):
    """The list of the things but the other one."""
    return [thing for thing in things if thing != other]


def pairings_of(web, things):
    """The list of the pairings of the things, which are in ascending order."""
    if len(things) == 0:
        return [()]
    first, *rest = things
    found = []
    for other in rest:
        if (first, other) in web:
            found = found + [((first, other),) + links for links in pairings_of(web, without(rest, other))]
    return found


def first_blocks(web, singles, things):
    """The first way to take the things, which are in ascending order, in links of the web and at
    most one of the singles, None if there is none.
    """
    if len(things) == 0:
        return ()
    first, *rest = things
    # a single takes the odd one out, so there is none among an even number of things
    blocks = [(first,)] if first in singles and len(rest) & 1 == 0 else []
    for block in blocks + [(first, other) for other in rest if (first, other) in web]:
        others = first_blocks(web, singles, [thing for thing in rest if thing not in block])
        if others is not None:
            return (block,) + others
    return None


def first_pairing(web, things):
    """The first pairing of the things, which are in ascending order, None if there is none."""
    return first_blocks(web, (), things)


def pairings(web, lot):
    """The list of all pairings of the lot."""
    return pairings_of(web, lot_of(lot, web.size))


def pairing_count(web, lot):
    """The number of pairings of the lot."""
    return len(pairings(web, lot))


def pairs_up(web, lot):
    """True if the lot has a pairing."""
    return first_pairing(web, lot_of(lot, web.size)) is not None


def greatest_row(web):
    """The list of the numbers of links of greatest pairings within all lots, by their masks."""
    row = [0]
    for thing in range(web.size):
        bits = [1 << other for other in web.near_to(thing) if other < thing]
        # the lots with this thing as their last one, which is unpaired or paired
        for rest in range(1 << thing):
            row.append(max([row[rest]] + [1 + row[rest ^ bit] for bit in bits if rest & bit]))
    return row


def greatest_pairing(web, lot):
    """The number of links of a greatest pairing within the lot."""
    return greatest_row(web)[mask_of(lot_of(lot, web.size))]


def paired_masks(web):
    """The masks of all lots that pair up in the web."""
    counts = thing_counts(web.size)
    return [mask for mask, links in enumerate(greatest_row(web)) if 2 * links == counts[mask]]


def paired_family(web):
    """The Family of all lots that pair up in the web."""
    return Family(web.size, lots_from(paired_masks(web)))


def apart_pairing(family, inner, other):
    """The first pairing, in the web at inner, of the things in which the two lots are apart.

    None if there is none.
    """
    one, two = inner_two(family, inner, other)
    return first_pairing(web_at(family, one), apart(one, two, family.size))


def both_partner(family, inner, other, thing):
    """The least other thing that is a partner of the thing for inner and other and for other and
    inner, None if there is none.
    """
    for y in common_partners(family, inner, other, thing):
        if y != thing:
            return y
    return None
