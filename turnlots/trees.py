"""The tree of pieces into which a whole even gated family falls."""

from turnlots.checks import check_thing, is_int, is_list, is_thing
from turnlots.cuts import glued_lots, strong_lots
from turnlots.errors import BadNumber
from turnlots.families import Family
from turnlots.glue import renamed
from turnlots.masks import lot_from, mask_of
from turnlots.merges import glue_over
from turnlots.pieces import sorted_piece


def is_within(part, mask):
    """True if the lot of the mask part is a subset of that of mask and not equal to it."""
    return part & mask == part and part != mask


def piece_names(stem, own, far_sides):
    """The names of the piece for the stem, by its mask and those of the far sides, in order.

    own is the list of the tree links that have the stem as their far side.
    """
    lesser = [k for k, side in enumerate(far_sides) if is_within(side, stem)]
    left = stem
    for k in lesser:
        left = left & ~far_sides[k]
    # those next to the stem
    links = [k for k in lesser if not any([is_within(far_sides[k], far_sides[j]) for j in lesser])]
    return list(lot_from(left)) + [-1 - k for k in sorted(links + own)]


def has_name(lot, name, links):
    """True if the lot contains the thing of the name, or if the tree link of the name is in for it."""
    if name >= 0:
        return name in lot
    return len([thing for thing in links[-1 - name] if thing in lot]) & 1 == 1


def piece_for(family, names, links):
    """The piece of the family that has these names."""
    lots = sorted({
        tuple([place for place, name in enumerate(names) if has_name(lot, name, links)])
        for lot in family.lots
    })
    return sorted_piece(Family(len(names), lots), names)


def tree_pieces(family, links):
    """The pieces of the family, for its strong lots with the thing 0, in the order of their names."""
    whole = (1 << family.size) - 1
    far_sides = [whole ^ mask_of(lot) for lot in links]
    rows = [piece_names(whole, [], far_sides)]
    rows = rows + [piece_names(side, [k], far_sides) for k, side in enumerate(far_sides)]
    return tuple([piece_for(family, names, links) for names in sorted(rows)])


def checked_order(order, many):
    """The order of the tree links, an ascending one for an empty one."""
    if not is_list(order) or not all([is_int(k) for k in order]):
        raise BadNumber("order")
    if len(order) > 0 and sorted(order) != list(range(many)):
        raise BadNumber("order")
    return list(order) if order else list(range(many))


def glue_two(one, other, name):
    """The names and the family of two such things glued at the thing with the name, a tuple."""
    names, family = one
    more, second = other
    glued = glue_over(family, second, [(names.index(name), more.index(name))])
    return [x for x in names + more if x != name], glued


class Tree:
    """The tree of a whole even gated family of three things or more. A Tree never changes."""

    def __init__(self, family):
        if family.size < 3:
            raise BadNumber("size")
        self._links = tuple(strong_lots(family))
        self.family = family
        self.pieces = tree_pieces(family, self._links)
        self.many_links = len(self._links)

    def link_lot(self, k):
        """The strong lot with the thing 0 that makes the tree link k."""
        if not is_thing(k, self.many_links):
            raise BadNumber("k")
        return self._links[k]

    def side_of(self, k, thing):
        """True if the lot of the tree link k contains the thing."""
        lot = self.link_lot(k)
        return check_thing(thing, self.family.size) in lot

    def glued(self):
        """The list of the glued lots that contain the thing 0."""
        return glued_lots(self.family)

    def count_glued(self):
        """The number of the glued lots that contain the thing 0."""
        return len(self.glued())

    def back_family(self, order=()):
        """The Family that the pieces give when they are glued at the tree links in this order."""
        parts = [(list(piece.names), piece.family) for piece in self.pieces]
        for k in checked_order(order, self.many_links):
            one, other = [part for part in parts if -1 - k in part[0]]
            rest = [part for part in parts if -1 - k not in part[0]]
            parts = rest + [glue_two(one, other, -1 - k)]
        names, family = parts[0]
        return renamed(family, names)

    def counts(self):
        """The numbers of the pieces of each sort, a dict."""
        words = [piece.sort_word() for piece in self.pieces]
        return {word: words.count(word) for word in ("parity", "one-away", "firm")}
