"""Texts of families, written and read."""

from turnlots.errors import BadText
from turnlots.families import Family

# What may follow where: for each state and each character that may stand there, the next state.
# The text of a family begins at "start", that of a web at "web". "first" is a number of one digit so
# far, "number" one that cannot go on.
NEXT = {
    ("start", "0"): "size", ("start", "1-9"): "size first",
    ("size first", "0"): "size", ("size first", "1-9"): "size",
    ("size first", ":"): "colon", ("size", ":"): "colon",
    ("colon", " "): "lot",
    ("lot", "-"): "empty lot", ("lot", "0"): "number", ("lot", "1-9"): "first",
    ("first", "0"): "number", ("first", "1-9"): "number",
    ("first", ","): "comma", ("first", " "): "lot",
    ("number", ","): "comma", ("number", " "): "lot",
    ("comma", "0"): "number", ("comma", "1-9"): "first",
    ("empty lot", " "): "lot",
    ("web", "0"): "web size", ("web", "1-9"): "web size first",
    ("web size first", "0"): "web size", ("web size first", "1-9"): "web size",
    ("web size first", ":"): "links", ("web size", ":"): "links",
    ("links", " "): "link",
    ("link", "0"): "link number", ("link", "1-9"): "link first",
    ("link first", "0"): "link number", ("link first", "1-9"): "link number",
    ("link first", "-"): "sign", ("link number", "-"): "sign",
    ("sign", "0"): "end number", ("sign", "1-9"): "end first",
    ("end first", "0"): "end number", ("end first", "1-9"): "end number",
    ("end first", " "): "link", ("end number", " "): "link",
}
FAMILY_ENDS = ("empty lot", "first", "number")
WEB_ENDS = ("links", "end first", "end number")


def lot_text(lot):
    """The text of a lot."""
    if len(lot) == 0:
        return "-"
    return ",".join([str(thing) for thing in lot])


def family_text(family):
    """The text of a family."""
    return " ".join([f"{family.size}:"] + [lot_text(lot) for lot in family.lots])


def check_form(text, state, ends):
    """Raises BadText if it is no text, or does not lead from the state to one of the ends."""
    if not isinstance(text, str):
        raise BadText(-1)
    for place, sign in enumerate(text):
        sort = "1-9" if sign in "123456789" else sign
        if (state, sort) not in NEXT:
            raise BadText(place)
        state = NEXT[(state, sort)]
    if state not in ends:
        raise BadText(len(text))


def lot_read(word):
    """The things of the text of a lot, in the order of the text."""
    if word == "-":
        return []
    return [int(number) for number in word.split(",")]


def family_from(text):
    """The family of a text."""
    check_form(text, "start", FAMILY_ENDS)
    head, *words = text.split(" ")
    return Family(int(head.removesuffix(":")), [lot_read(word) for word in words])
