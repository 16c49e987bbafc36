"""Pieces: families of the three sorts of which each whole even gated family is glued together."""

from turnlots.checks import is_int, is_list
from turnlots.cuts import strong_lots
from turnlots.errors import BadNumber, BadTable, NotAPiece


class Piece:
    """A family and a name for each of its things: i for a thing i, -1 - k for a tree link k."""

    def __init__(self, family, names):
        self.family = family
        self.names = tuple(names)

    def sort_word(self):
        """The word of the sort of the piece."""
        return "piece"

    def told(self):
        """The word of the sort and the names."""
        return self.sort_word(), self.names

    def joints(self):
        """The tuple of the numbers of the tree links among the names."""
        return tuple([-1 - name for name in self.names if name < 0])


class Parity(Piece):
    """A piece whose lots are all lots of even size or all lots of odd size."""

    smallest = 3

    def sort_word(self):
        """The word of the sort of the piece."""
        return "parity"

    def is_odd(self):
        """True if the lots have odd sizes."""
        return len(self.family.lots[0]) & 1 == 1

    def told(self):
        """The word of the sort, the names, and whether the lots have odd sizes."""
        return self.sort_word(), self.names, self.is_odd()


class OneAway(Piece):
    """A piece whose lots are all lots with the gap 1 to one lot, the centre."""

    smallest = 3

    def sort_word(self):
        """The word of the sort of the piece."""
        return "one-away"

    def centre(self):
        """The lot to which all lots have the gap 1."""
        return centre_of(self.family)

    def told(self):
        """The word of the sort, the names and the centre."""
        return self.sort_word(), self.names, self.centre()


class Firm(Piece):
    """A piece in which no lot is glued."""

    smallest = 4

    def sort_word(self):
        """The word of the sort of the piece."""
        return "firm"

    def told(self):
        """The word of the sort, the names and the number of lots."""
        return self.sort_word(), self.names, len(self.family.lots)


def centre_of(family):
    """The lot of the things that are in more than one lot, which is the centre of a one-away family."""
    # of three lots or more, a thing of the centre is missing in one, and another thing is in one
    return tuple([
        thing for thing in range(family.size) if len([lot for lot in family.lots if thing in lot]) > 1
    ])


def is_one_away(family):
    """True if the lots of a family of three things or more are all lots with the gap 1 to one lot."""
    centre = centre_of(family)
    gaps = [len(set(lot) ^ set(centre)) for lot in family.lots]
    return gaps == [1 for _ in range(family.size)]


def sorted_piece(family, names):
    """The Parity or OneAway of a family of this sort; the Firm of any other one.

    The family is a whole even gated one of three things or more, and is of one of the three sorts.
    """
    if len(family.lots) == 1 << (family.size - 1):
        return Parity(family, names)
    return OneAway(family, names) if is_one_away(family) else Firm(family, names)


def check_names(names, size):
    """Raises BadTable unless the names are size different integers."""
    if not is_list(names):
        raise BadTable(-1)
    if len(names) != size:
        raise BadTable(-2)
    for place, name in enumerate(names):
        if not is_int(name) or name in names[:place]:
            raise BadTable(place)


def piece_of(family, names):
    """The Parity, OneAway or Firm of a family of one of these sorts."""
    if family.size < Parity.smallest:
        raise BadNumber("size")
    check_names(names, family.size)
    # this needs a whole family, as the function does
    strong = strong_lots(family)
    if strong:
        raise NotAPiece(strong[0])
    return sorted_piece(family, names)
