"""Families of lots."""

from turnlots.checks import check_any_number, is_int, is_list, is_lot, lot_of
from turnlots.errors import BadFamily, OtherSize, TooMany
from turnlots.masks import family_masks, lots_from, ordered_masks


def check_family_size(size):
    """The size, if it is an integer from 1 to 10."""
    if not is_int(size) or not 1 <= size <= 10:
        raise BadFamily(-1)
    return size


def checked_rows(size, lots):
    """The lots as ascending tuples, in the order in which they were passed."""
    if not is_list(lots):
        raise BadFamily(-2)
    if len(lots) == 0:
        raise BadFamily(-3)
    rows = {}
    for place, lot in enumerate(lots):
        row = tuple(sorted(lot)) if is_lot(lot, size) else None
        if row is None or row in rows:
            raise BadFamily(place)
        rows[row] = True
    return list(rows)


class Family:
    """One or more different lots of the things 0 to size - 1. A family never changes."""

    def __init__(self, size, lots):
        self.size = check_family_size(size)
        self.lots = tuple(sorted(checked_rows(size, lots)))
        # a dict finds a lot without a look at all others
        self._inside = {lot: True for lot in self.lots}

    @classmethod
    def of(cls, size, *lots):
        """The family of the lots that are passed one by one."""
        return cls(size, lots)

    @classmethod
    def everything(cls, size):
        """The family of all lots of size things."""
        return cls(size, lots_from(ordered_masks(check_family_size(size))))

    @classmethod
    def sized(cls, size, low, high):
        """The family of all lots of low to high things."""
        check_family_size(size)
        check_any_number(low, "low")
        check_any_number(high, "high")
        return cls(size, [lot for lot in lots_from(ordered_masks(size)) if low <= len(lot) <= high])

    @staticmethod
    def count_of(size):
        """The number of all lots of size things."""
        return 1 << check_family_size(size)

    def __len__(self):
        return len(self.lots)

    def __iter__(self):
        return iter(self.lots)

    def __contains__(self, lot):
        return is_lot(lot, self.size) and tuple(sorted(lot)) in self._inside

    def __eq__(self, other):
        return isinstance(other, Family) and self.size == other.size and self.lots == other.lots

    def __xor__(self, lot):
        """The family turned by a lot."""
        turn = lot_of(lot, self.size)
        return Family(self.size, [tuple(sorted(set(row) ^ set(turn))) for row in self.lots])

    def __add__(self, other):
        """The join: all sums of a lot of the one family and a lot of the other."""
        if self.size != other.size:
            raise OtherSize(other.size)
        others = family_masks(other)
        sums = sorted({one ^ two for one in family_masks(self) for two in others})
        return Family(self.size, lots_from(sums))

    def __mul__(self, other):
        """The two families side by side, the things of the second one behind those of the first."""
        size = self.size + other.size
        if size > 10:
            raise TooMany("things")
        moved = [tuple([thing + self.size for thing in lot]) for lot in other.lots]
        return Family(size, [row + lot for row in self.lots for lot in moved])

    def fixed_in(self):
        """The things that are in all lots."""
        return tuple([x for x in range(self.size) if all([x in lot for lot in self.lots])])

    def fixed_out(self):
        """The things that are in no lot."""
        return tuple([x for x in range(self.size) if not any([x in lot for lot in self.lots])])

    def loose(self):
        """The things that are in some lots, but not in all."""
        fixed = self.fixed_in() + self.fixed_out()
        return tuple([x for x in range(self.size) if x not in fixed])

    def has(self, lot):
        """True if the family contains the lot."""
        return lot_of(lot, self.size) in self._inside

    def depth(self, lot):
        """The least gap of the lot and a lot of the family."""
        row = lot_of(lot, self.size)
        return min([len(set(row) ^ set(other)) for other in self.lots])

    def contrary(self):
        """The family turned by all things."""
        return self ^ tuple(range(self.size))
