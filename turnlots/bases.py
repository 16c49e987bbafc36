"""The matroid at a lot of things of a gated family."""

from turnlots.breaks import needs_gated
from turnlots.checks import check_thing, is_lot, lot_of
from turnlots.depths import lowers, raises
from turnlots.errors import BadThing
from turnlots.gates import nearest_masks
from turnlots.masks import lots_from, mask_of


def bases_at(family, lot):
    """The list of the bases at a lot of things, an ascending tuple, of a gated family."""
    mask = mask_of(lot)
    return lots_from([near ^ mask for near in nearest_masks(family, mask)])


def independent_row(size, bases):
    """The list that says of each mask if its lot is a subset of a base."""
    independent = [False for _ in range(1 << size)]
    for base in bases:
        independent[mask_of(base)] = True
    # a mask is greater than those of its subsets, so it is final when its turn comes
    for mask in reversed(range(1 << size)):
        if independent[mask]:
            for thing in range(size):
                independent[mask & ~(1 << thing)] = True
    return independent


def circuit_masks(size, bases):
    """The masks of the lots that are in no base although all their smaller subsets are."""
    independent = independent_row(size, bases)
    circuits = []
    for mask, free in enumerate(independent):
        smaller = [mask ^ (1 << thing) for thing in range(size) if (mask >> thing) & 1]
        if not free and all([independent[less] for less in smaller]):
            circuits.append(mask)
    return circuits


def put_together(size, lots):
    """The tuple of the classes of the things, where the things of each of the lots share a class."""
    marks = list(range(size))
    for lot in lots:
        shared = [marks[thing] for thing in lot]
        # the mark of a class is its least thing, so the marks give the order of the classes
        marks = [min(shared) if mark in shared else mark for mark in marks]
    return tuple([
        tuple([thing for thing in range(size) if marks[thing] == mark])
        for mark in sorted(set(marks))
    ])


class At:
    """The matroid at a lot of things. An At never changes."""

    def __init__(self, family, lot):
        row = lot_of(lot, family.size)
        needs_gated(family)
        self.family = family
        self.lot = row
        self._bases = tuple(bases_at(family, row))
        self.rank = len(self._bases[0])

    def __len__(self):
        return len(self._bases)

    def __contains__(self, lot):
        return is_lot(lot, self.family.size) and tuple(sorted(lot)) in self._bases

    def __eq__(self, other):
        return isinstance(other, At) and self.family.size == other.family.size and self._bases == other._bases

    def bases(self):
        """The list of the bases."""
        return list(self._bases)

    def circuits(self):
        """The list of the circuits."""
        return lots_from(circuit_masks(self.family.size, self._bases))

    def loops(self):
        """The things that are in no base."""
        return tuple([x for x in range(self.family.size) if not any([x in base for base in self._bases])])

    def coloops(self):
        """The things that are in all bases."""
        return tuple([x for x in range(self.family.size) if all([x in base for base in self._bases])])

    def rank_of(self, other):
        """The greatest number of things of the lot in one base."""
        row = lot_of(other, self.family.size)
        return max([len(set(row) & set(base)) for base in self._bases])

    def is_independent(self, other):
        """True if the lot is a subset of a base."""
        return self.rank_of(other) == len(other)

    def spans(self, other):
        """The things that do not raise the rank of the lot when they are put in."""
        row = lot_of(other, self.family.size)
        rank = self.rank_of(row)
        return tuple([
            x for x in range(self.family.size) if x in row or self.rank_of(row + (x,)) == rank
        ])

    def alike(self):
        """The classes of the things that are no loops and that no base contains together."""
        loops = self.loops()
        seen = [x for x in range(self.family.size) if x not in loops]
        classes = [
            tuple([y for y in seen if y == x or not self.is_independent((x, y))])
            for x in seen
        ]
        return tuple(sorted(set(classes)))

    def lumps(self):
        """The classes of the things that circuits put together."""
        return put_together(self.family.size, self.circuits())


def same_at(family, lot, thing):
    """Which of "down", "up" and "same" is the case for lot and lot + thing."""
    row = lot_of(lot, family.size)
    check_thing(thing, family.size)
    needs_gated(family)
    # a thing is in a base exactly if its exchange leads to a lot of smaller depth
    if thing in lowers(family, row):
        return "down"
    return "up" if thing in raises(family, row) else "same"


def contracted(matroid, thing):
    """The list of the bases that contain the thing, with the thing taken out."""
    check_thing(thing, matroid.family.size)
    if thing in matroid.loops():
        raise BadThing(thing)
    return sorted([
        tuple([x for x in base if x != thing]) for base in matroid.bases() if thing in base
    ])
