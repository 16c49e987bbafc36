"""The errors of the package, all directly under LotsError."""


class LotsError(Exception):
    """The base of all errors of the package."""


class BadLot(LotsError):
    """An argument is no lot: place is its first wrong entry, -1 for a wrong kind."""

    def __init__(self, place):
        self.place = place


class BadFamily(LotsError):
    """The size or the lots make no family: place is the first wrong lot, or below 0."""

    def __init__(self, place):
        self.place = place


class BadThing(LotsError):
    """An argument is no thing, or not one that is allowed there."""

    def __init__(self, thing):
        self.thing = thing


class BadNumber(LotsError):
    """A number is of the wrong kind or outside its range: name says which."""

    def __init__(self, name):
        self.name = name


class BadPair(LotsError):
    """Two lots or things make no pair: thing is the first one in the way, -1 for a wrong kind."""

    def __init__(self, thing):
        self.thing = thing


class BadTable(LotsError):
    """A table has the wrong kind or length (place below 0) or a wrong entry."""

    def __init__(self, place):
        self.place = place


class BadText(LotsError):
    """A text does not have its form: place is how far it had it, -1 for a wrong kind."""

    def __init__(self, place):
        self.place = place


class BadEdge(LotsError):
    """The labels of lot and of lot + thing do not fit together."""

    def __init__(self, lot, thing):
        self.lot = lot
        self.thing = thing


class BadWish(LotsError):
    """An argument is no wish: place is its first wrong entry, or below 0."""

    def __init__(self, place):
        self.place = place


class BadStretch(LotsError):
    """An argument is no rows of stretches: place is the first wrong row, or below 0."""

    def __init__(self, place):
        self.place = place


class BadSort(LotsError):
    """A word names no sort of bond."""

    def __init__(self, word):
        self.word = word


class BadLink(LotsError):
    """The size or the links make no web: place is the first wrong link, or below 0."""

    def __init__(self, place):
        self.place = place


class BrokenRule(LotsError):
    """A depth table breaks a depth rule at lot."""

    def __init__(self, rule, lot):
        self.rule = rule
        self.lot = lot


class BrokenMet(LotsError):
    """A met table breaks a met rule."""

    def __init__(self, rule):
        self.rule = rule


class NoLot(LotsError):
    """There is no lot of the kind asked for."""


class NotInside(LotsError):
    """The lot is not one of the lots that it must be one of."""

    def __init__(self, lot):
        self.lot = lot


class NotGated(LotsError):
    """The family has the break (lot, other, thing)."""

    def __init__(self, lot, other, thing):
        self.lot = lot
        self.other = other
        self.thing = thing


class NotEven(LotsError):
    """The family has the lots lot and other of unlike parity."""

    def __init__(self, lot, other):
        self.lot = lot
        self.other = other


class NotWhole(LotsError):
    """The family does not hang together: lot is its first part."""

    def __init__(self, lot):
        self.lot = lot


class NotParted(LotsError):
    """The lot does not part the family."""

    def __init__(self, lot):
        self.lot = lot


class NotBonded(LotsError):
    """The two things are not bonded at the lot."""

    def __init__(self, thing, other):
        self.thing = thing
        self.other = other


class NotFull(LotsError):
    """The family has the hole lot."""

    def __init__(self, lot):
        self.lot = lot


class NotBothWays(LotsError):
    """The thing has no common partner for lot and other."""

    def __init__(self, lot, other, thing):
        self.lot = lot
        self.other = other
        self.thing = thing


class NotGlued(LotsError):
    """The lot is not glued in the family."""

    def __init__(self, lot):
        self.lot = lot


class NotAPiece(LotsError):
    """The family is of none of the three sorts: lot is its first strong lot."""

    def __init__(self, lot):
        self.lot = lot


class BadWord(LotsError):
    """Words of deeds are wrong: place is the first wrong one, -1 for a wrong kind."""

    def __init__(self, place):
        self.place = place


class EmptyDesk(LotsError):
    """A desk has no deed left."""


class NotHanded(LotsError):
    """A desk cannot hand back what it held before."""


class OtherSize(LotsError):
    """Two objects have different sizes: size is that of the second one."""

    def __init__(self, size):
        self.size = size


class TooMany(LotsError):
    """There would be too many of what name says."""

    def __init__(self, name):
        self.name = name
