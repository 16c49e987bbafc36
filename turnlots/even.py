"""Parity of families, and webs: links between things, and the web at a lot of a family."""

from turnlots.bases import put_together
from turnlots.breaks import needs_gated
from turnlots.checks import check_thing, is_int, is_list, is_lot, lot_of
from turnlots.errors import BadLink, NotEven
from turnlots.gates import check_inside
from turnlots.masks import inside_row, lot_from, mask_of, ordered_masks
from turnlots.sides import odd_cycle
from turnlots.texts import WEB_ENDS, check_form


def unlike_parity(family):
    """The first two lots of unlike parity, None if the family is even."""
    first = family.lots[0]
    for lot in family.lots:
        if (len(lot) ^ len(first)) & 1:
            return first, lot
    return None


def is_even(family):
    """True if all lots of the family are alike in parity."""
    return unlike_parity(family) is None


def needs_even(family):
    """Raises NotEven with the first two lots of unlike parity if the family is not even."""
    found = unlike_parity(family)
    if found is not None:
        one, other = found
        raise NotEven(one, other)


def needs_gated_even(family):
    """Raises NotGated or NotEven, in this order, if the family is not gated or not even."""
    needs_gated(family)
    needs_even(family)


def checked_links(size, links):
    """The links as ascending tuples, in ascending order, after a look at the size."""
    if not is_int(size) or not 1 <= size <= 10:
        raise BadLink(-1)
    if not is_list(links):
        raise BadLink(-2)
    rows = {}
    for place, link in enumerate(links):
        row = tuple(sorted(link)) if is_lot(link, size) else ()
        if len(row) != 2 or row in rows:
            raise BadLink(place)
        rows[row] = True
    return tuple(sorted(rows))


def link_read(word):
    """The two things of the text of a link, in the order of the text."""
    return [int(number) for number in word.split("-")]


class Web:
    """Links between the things 0 to size - 1. A Web never changes."""

    def __init__(self, size, links):
        self.links = checked_links(size, links)
        self.size = size

    @staticmethod
    def of_rows(text):
        """The web of a text."""
        check_form(text, "web", WEB_ENDS)
        head, *words = text.split(" ")
        return Web(int(head.removesuffix(":")), [link_read(word) for word in words])

    def __len__(self):
        return len(self.links)

    def __iter__(self):
        return iter(self.links)

    def __contains__(self, link):
        return is_lot(link, self.size) and tuple(sorted(link)) in self.links

    def __eq__(self, other):
        return isinstance(other, Web) and self.size == other.size and self.links == other.links

    def near_to(self, thing):
        """The tuple of the things that are linked to the thing."""
        check_thing(thing, self.size)
        return tuple([other for other in range(self.size) if (thing, other) in self])

    def without_links(self, things):
        """The web with the links of which neither thing is in the lot things."""
        barred = lot_of(things, self.size)
        return Web(self.size, [(x, y) for x, y in self.links if x not in barred and y not in barred])

    def web_parts(self):
        """The tuple of the parts."""
        return put_together(self.size, self.links)

    def sides(self):
        """The first side, None if there is none."""
        for mask in ordered_masks(self.size):
            if all([(mask >> x) & 1 != (mask >> y) & 1 for x, y in self.links]):
                return lot_from(mask)
        return None

    def odd_ring_in(self):
        """An odd ring, None if there is none."""
        joints = {(x, y): True for x in range(self.size) for y in self.near_to(x)}
        return odd_cycle(self.size, joints)

    def even_ring_in(self):
        """An even ring, None if there is none."""
        for root in range(self.size):
            ring = even_ring_along(self, (root,))
            if ring is not None:
                return ring
        return None


def even_ring_along(web, way):
    """An even ring that is closed on a way that begins with this one, None if there is none."""
    near = web.near_to(way[-1])
    for place, thing in enumerate(way):
        length = len(way) - place
        if thing in near and length > 2 and length & 1 == 0:
            return way[place:]
    for thing in near:
        if thing not in way:
            ring = even_ring_along(web, way + (thing,))
            if ring is not None:
                return ring
    return None


def web_at(family, inner):
    """The web at the lot inner of the family."""
    row = lot_of(inner, family.size)
    check_inside(family, row)
    inside = inside_row(family)
    things = range(family.size)
    return Web(family.size, [
        (x, y) for x in things for y in things
        if x < y and inside[mask_of(row) ^ (1 << x) ^ (1 << y)]
    ])
