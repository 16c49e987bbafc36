"""Depth lists, bonds and wishes of a glue, told by those of the two families that are glued."""

from turnlots.bonds import bonds
from turnlots.checks import check_loose, check_thing
from turnlots.counts import added, multiplied, pushed, tally
from turnlots.critical import critical
from turnlots.even import needs_gated_even
from turnlots.glue import check_glue
from turnlots.lots import others_of
from turnlots.masks import depth_row
from turnlots.onelot import is_turned_matroid
from turnlots.small import in_of, out_of
from turnlots.wishes import wish_of


def near_lists(family, link):
    """The out list and the in list of an even gated family and a loose thing of it."""
    outs, ins = depth_row(out_of(family, link)), depth_row(in_of(family, link))
    rows = list(zip(outs, ins))
    return (
        tally([out for out, within in rows if out < within]),
        tally([within for out, within in rows if within < out]),
    )


def near(family, link):
    """The out list and the in list of the family and a loose thing of it."""
    check_loose(family, link)
    needs_gated_even(family)
    return near_lists(family, link)


def glue_depths(left, left_link, right, right_link):
    """The depth list of the glue, which may be of any size."""
    check_glue(left, left_link, right, right_link)
    out, within = near_lists(left, left_link)
    other_out, other_within = near_lists(right, right_link)
    same = added(multiplied(out, other_out), multiplied(within, other_within))
    # where the lists of unlike sides come together, one of them must go one step farther
    unlike = added(multiplied(out, other_within), multiplied(within, other_out))
    return added(same, pushed(unlike))


def bond_marks(family):
    """Of each two bonded things, in both orders, whether they are rivals and whether mates."""
    marks = {}
    for x, y, rivals, mates in bonds(family):
        marks[(x, y)] = (rivals, mates)
        marks[(y, x)] = (rivals, mates)
    return marks


def across_mark(mark, other):
    """Whether two things are rivals and whether mates, by their bonds with the two things of the link."""
    rivals, mates = mark
    other_rivals, other_mates = other
    return (
        (rivals and other_mates) or (mates and other_rivals),
        (rivals and other_rivals) or (mates and other_mates),
    )


def glue_bonds(glue):
    """The bonds of the family of the glue, as bonds gives them."""
    left, right = bond_marks(glue.left), bond_marks(glue.right)
    p, q = glue.left_link, glue.right_link
    marks = {
        (glue.left_thing(x), glue.left_thing(y)): left[(x, y)] for x, y in left if p not in (x, y)
    }
    for x, y in right:
        if q not in (x, y):
            marks[(glue.right_thing(x), glue.right_thing(y))] = right[(x, y)]
    for x in others_of((p,), glue.left.size):
        for y in others_of((q,), glue.right.size):
            mark = across_mark(left.get((x, p), (False, False)), right.get((y, q), (False, False)))
            marks[(glue.left_thing(x), glue.right_thing(y))] = mark
    return [(x, y) + marks[(x, y)] for x, y in sorted(marks) if x < y and True in marks[(x, y)]]


def put_in(numbers, place, number):
    """The list of the numbers with one more put in at the place."""
    return list(numbers[:place]) + [number] + list(numbers[place:])


def critical_across(near_side, far_side, place):
    """The critical wish in the glue of the thing at the place among those of the near side.

    A side is a tuple of a family, its link, and the numbers of its other things.
    """
    family, link, numbers = near_side
    other, other_link, other_numbers = far_side
    # the number of the far link itself does not count
    value = critical(other, put_in(other_numbers, other_link, 0), other_link)
    return critical(family, put_in(numbers, link, -value), others_of((link,), family.size)[place])


def glue_critical(glue, wish, thing):
    """The critical wish of a thing of the family of the glue, None if it is fixed."""
    numbers = wish_of(wish, len(glue)).numbers
    check_thing(thing, len(glue))
    size = glue.left_size
    left = (glue.left, glue.left_link, numbers[:size])
    right = (glue.right, glue.right_link, numbers[size:])
    if thing < size:
        return critical_across(left, right, thing)
    return critical_across(right, left, thing - size)


def tree_sorts(tree):
    """The words "turned matroid" if the family of the tree is one, otherwise "not"."""
    firm = [piece for piece in tree.pieces if piece.sort_word() == "firm"]
    if tree.counts()["parity"] == 0 and all([is_turned_matroid(piece.family) for piece in firm]):
        return "turned matroid"
    return "not"
