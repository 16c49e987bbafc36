"""Trials: deeds that are done on a desk and all taken back."""

from turnlots.checks import is_list
from turnlots.errors import BadWord

# The number of arguments of each deed, by its name.
ARGUMENTS = {
    "turn": 1, "hold": 1, "leave": 1, "drop": 1, "merge_two": 2, "join_with": 1, "glue_in": 3,
    "grow": 1, "widen": 0, "want": 1,
}


class Trial:
    """The context of a block at whose end a desk is as it was when the block was entered."""

    def __init__(self, desk):
        self.desk = desk
        self.mark = desk.many
        self._held = desk._held
        self._before = desk._held[0]

    def __enter__(self):
        self.mark = self.desk.many
        self._before = self._held[0]
        return self

    def __exit__(self, kind, value, trace):
        # what the desk held before never changes: so deeds that the block took back are back, too
        self._held.clear()
        self._held.append(self._before)

    def try_all(self, words):
        """The family to which the deeds of the words lead, which are all taken back."""
        return tried(self.desk, words)


def is_word(word):
    """True if the word is that of a deed."""
    if not is_list(word) or len(word) == 0 or not isinstance(word[0], str):
        return False
    return word[0] in ARGUMENTS and len(word) == 1 + ARGUMENTS[word[0]]


def check_words(words):
    """Raises BadWord unless these are words of deeds."""
    if not is_list(words):
        raise BadWord(-1)
    for place, word in enumerate(words):
        if not is_word(word):
            raise BadWord(place)


def do_small(desk, name, things):
    """Does the deed of this name that makes the family smaller."""
    if name == "hold":
        desk.hold(*things)
    elif name == "leave":
        desk.leave(*things)
    elif name == "drop":
        desk.drop(*things)
    else:
        desk.merge_two(*things)


def do_deed(desk, word):
    """Does the deed of the word on the desk."""
    name, *arguments = word
    if name == "turn":
        desk.turn(*arguments)
    elif name == "join_with":
        desk.join_with(*arguments)
    elif name == "glue_in":
        desk.glue_in(*arguments)
    elif name == "grow":
        desk.grow(*arguments)
    elif name == "widen":
        desk.widen()
    elif name == "want":
        desk.want(*arguments)
    else:
        do_small(desk, name, arguments)


def tried(desk, words):
    """The family to which the deeds of the words lead, which are all taken back."""
    check_words(words)
    with Trial(desk):
        for word in words:
            do_deed(desk, word)
        return desk.family_now
