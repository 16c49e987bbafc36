"""Families as lines of text."""

from turnlots.bases import bases_at
from turnlots.bonds import bonds
from turnlots.breaks import is_gated, needs_gated
from turnlots.even import is_even
from turnlots.lots import all_lots, others_of
from turnlots.partings import finest
from turnlots.texts import lot_text


def counted(number, word):
    """The number and the word, with an s for all numbers but 1."""
    return f"{number} {word}" if number == 1 else f"{number} {word}s"


def line_of(family):
    """The head of the family."""
    words = [
        counted(family.size, "thing"),
        counted(len(family.lots), "lot"),
        "even" if is_even(family) else "mixed",
        "gated" if is_gated(family) else "not gated",
        counted(len(finest(family)), "part"),
    ]
    return ", ".join(words)


def bond_line(x, y, rivals, mates):
    """The line of two bonded things."""
    words = [word for word, is_so in (("rivals", rivals), ("mates", mates)) if is_so]
    return f"{x}-{y} " + " and ".join(words)


def listing(family):
    """The list of the head, the lines of the lots and those of the bonded things."""
    lines = [bond_line(x, y, rivals, mates) for x, y, rivals, mates in bonds(family)]
    return [line_of(family)] + [lot_text(lot) for lot in family.lots] + lines


def table_line(family, lot):
    """The table line of a lot of things of a gated family."""
    bases = bases_at(family, lot)
    lowering = sorted({thing for base in bases for thing in base})
    loops = others_of(lowering, family.size)
    return f"{lot_text(lot):<19}{len(bases[0]):>3}{len(bases):>5} {lot_text(loops)}"


def table_text(family):
    """The list of the table lines of all lots of things of a gated family."""
    needs_gated(family)
    return [table_line(family, lot) for lot in all_lots(family.size)]
