"""Two even gated families glued at a thing of each, and a family cut off and put back."""

from turnlots.checks import check_loose, check_thing, lot_of
from turnlots.errors import BadLot, NotGlued, TooMany
from turnlots.even import needs_gated_even
from turnlots.families import Family
from turnlots.lots import others_of
from turnlots.masks import family_masks, mask_of, thing_counts
from turnlots.merges import glue_over
from turnlots.partings import is_parting, needs_whole
from turnlots.small import renumbered


def needs_whole_even(family):
    """Raises NotGated, NotEven or NotWhole, in this order, if the family is not gated, even and whole."""
    needs_gated_even(family)
    needs_whole(family)


def check_glue_size(left, right):
    """The size of the glue of the two families at a thing of each, if it is not above 10."""
    size = left.size - 1 + right.size - 1
    if size > 10:
        raise TooMany("things")
    return size


def check_glue(left, left_link, right, right_link):
    """Raises an error unless these are two even gated families and a loose thing of each."""
    check_loose(left, left_link)
    check_loose(right, right_link)
    needs_gated_even(left)
    needs_gated_even(right)


class Glue:
    """The glue of two even gated families at a loose thing of each. A Glue never changes."""

    def __init__(self, left, left_link, right, right_link):
        check_glue_size(left, right)
        check_glue(left, left_link, right, right_link)
        self.left = left
        self.left_link = left_link
        self.right = right
        self.right_link = right_link
        self.family = glue_over(left, right, [(left_link, right_link)])

    def __len__(self):
        return len(range(self.family.size))

    def __eq__(self, other):
        return isinstance(other, Glue) and self.family == other.family

    @property
    def left_size(self):
        """The number of the things of the left family but its link."""
        return self.left.size - 1

    @property
    def right_size(self):
        """The number of the things of the right family but its link."""
        return self.right.size - 1

    def left_thing(self, thing):
        """The thing of the glue that stands for a thing of the left family other than its link."""
        check_thing(thing, self.left.size)
        return renumbered(thing, (self.left_link,))

    def right_thing(self, thing):
        """The thing of the glue that stands for a thing of the right family other than its link."""
        check_thing(thing, self.right.size)
        return self.left_size + renumbered(thing, (self.right_link,))

    def is_on_left(self, thing):
        """True if the thing of the glue stands for a thing of the left family."""
        return check_thing(thing, self.family.size) < self.left_size


def cut_lot(lot, size):
    """The lot as an ascending tuple, if both it and the lot of the other things have two or more."""
    row = lot_of(lot, size)
    if not 2 <= len(row) <= size - 2:
        raise BadLot(-1)
    return row


def whole_cut(family, lot):
    """The lot as cut_lot gives it, if the family is a whole even gated one."""
    row = cut_lot(lot, family.size)
    needs_whole_even(family)
    return row


def is_glued_at(family, part):
    """True if the lot with the mask part is glued in a whole even gated family."""
    counts = thing_counts(family.size)
    masks = family_masks(family)
    # glued is all that is parted in the lots with an even number of things of it, and in the others
    return all([
        is_parting([mask for mask in masks if counts[mask & part] & 1 == parity], part)
        for parity in (0, 1)
    ])


def marked(family, things, part):
    """The Family of what the lots of a family have of the things, which are renumbered, with one
    last thing exactly if they have an odd number of things of the lot part.
    """
    rows = []
    for lot in family.lots:
        row = [place for place, thing in enumerate(things) if thing in lot]
        is_odd = len([thing for thing in part if thing in lot]) & 1
        rows.append(tuple(row + [len(things)] if is_odd else row))
    return Family(len(things) + 1, sorted(set(rows)))


def cut_off(family, lot):
    """The two Families whose glue at their last things is the family: one with the things of the lot,
    one with the others.
    """
    row = whole_cut(family, lot)
    if not is_glued_at(family, mask_of(row)):
        raise NotGlued(row)
    return marked(family, row, row), marked(family, others_of(row, family.size), row)


def renamed(family, names):
    """The Family with the things called by their names, which are the things in another order."""
    lots = [tuple(sorted([names[thing] for thing in lot])) for lot in family.lots]
    return Family(family.size, lots)


def put_back(left, right, lot):
    """The family of the glue at the last things, with the things of left as those of the lot."""
    row = lot_of(lot, check_glue_size(left, right))
    if len(row) != left.size - 1:
        raise BadLot(-1)
    glue = Glue(left, left.size - 1, right, right.size - 1)
    return renamed(glue.family, row + others_of(row, len(glue)))
