"""Texts of families, written and read."""

from turnlots.errors import BadText
from turnlots.families import Family

# What may follow where: for each state and each character that may stand there, the next state.
# "first" is a number of one digit so far, "number" one that cannot go on.
NEXT = {
    ("start", "0"): "size", ("start", "1-9"): "size first",
    ("size first", "0"): "size", ("size first", "1-9"): "size",
    ("size first", ":"): "colon", ("size", ":"): "colon",
    ("colon", " "): "lot",
    ("lot", "-"): "empty lot", ("lot", "0"): "number", ("lot", "1-9"): "first",
    ("first", "0"): "number", ("first", "1-9"): "number",
    ("first", ","): "comma", ("first", " "): "lot",
    ("number", ","): "comma", ("number", " "): "lot",
    ("comma", "0"): "number", ("comma", "1-9"): "first",
    ("empty lot", " "): "lot",
}
ENDS = ("empty lot", "first", "number")


def lot_text(lot):
    """The text of a lot."""
    if len(lot) == 0:
        return "-"
    return ",".join([str(thing) for thing in lot])


def family_text(family):
    """The text of a family."""
    return " ".join([f"{family.size}:"] + [lot_text(lot) for lot in family.lots])


def check_form(text):
    """Raises BadText if the text does not have the form of the text of a family."""
    state = "start"
    for place, sign in enumerate(text):
        sort = "1-9" if sign in "123456789" else sign
        if (state, sort) not in NEXT:
            raise BadText(place)
        state = NEXT[(state, sort)]
    if state not in ENDS:
        raise BadText(len(text))


def lot_read(word):
    """The things of the text of a lot, in the order of the text."""
    if word == "-":
        return []
    return [int(number) for number in word.split(",")]


def family_from(text):
    """The family of a text."""
    if not isinstance(text, str):
        raise BadText(-1)
    check_form(text)
    head, *words = text.split(" ")
    return Family(int(head.removesuffix(":")), [lot_read(word) for word in words])
