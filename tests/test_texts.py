import itertools

from tests.helpers import Case, chosen_families, small_families
from turnlots.errors import BadFamily, BadText
from turnlots.families import Family
from turnlots.texts import family_from, family_text

SIGNS = "01- ,:9x"


def is_begun(text):
    """True if some text of the form begins with text; each part of it is tried by itself."""
    head, colon, rest = text.partition(":")
    if not colon:
        return is_number(head) or head == ""
    if not is_number(head) or not (rest == "" or rest[0] == " "):
        return False
    words = rest.split(" ")[1:]
    return all(is_lot_text(word) for word in words[:-1]) and (words == [] or is_lot_begun(words[-1]))


def is_number(word):
    return word in [str(number) for number in range(100)]


def is_lot_text(word):
    return word == "-" or all(is_number(part) for part in word.split(","))


def is_lot_begun(word):
    return word == "" or is_lot_text(word) or (word[-1] == "," and is_lot_text(word[:-1]) and word != "-,")


def is_whole(text):
    head, colon, rest = text.partition(": ")
    return bool(colon) and is_number(head) and all(is_lot_text(word) for word in rest.split(" "))


class TextsTest(Case):
    def test_point_12_written(self):
        self.assertEqual(family_text(Family(3, [(2, 1), ()])), "3: - 1,2")
        self.assertEqual(family_text(Family.of(1, ())), "1: -")
        self.assertEqual(family_text(Family.of(10, tuple(range(9, -1, -1)))), "10: 0,1,2,3,4,5,6,7,8,9")

    def test_point_12_read_in_any_order(self):
        self.assertEqual(family_from("3: 2,1 - 0"), Family.of(3, (), (0,), (1, 2)))
        self.assertEqual(family_from("10: 9,0"), Family.of(10, (0, 9)))
        self.assertEqual(family_from("1: -"), Family.of(1, ()))

    def test_point_12_reading_a_written_text_gives_an_equal_family(self):
        for family in itertools.chain(small_families(), chosen_families(), [Family.everything(10)]):
            self.assertEqual(family_from(family_text(family)), family)

    def test_no_string(self):
        for text in (None, 3, ["3: -"], b"3: -", Family.of(1, ())):
            self.assert_error(BadText(-1), family_from, text)

    def test_where_the_form_ends(self):
        for text, place in (
            ("", 0), ("3", 1), ("3:", 2), ("3: ", 3), ("3: 0,", 5), ("3: - ", 5), (" 3: -", 0),
            ("03: -", 1), ("100: -", 2), ("3: 01", 4), ("3: 100", 5), ("3: -0", 4), ("3: 0,-", 5),
            ("3:0", 2), ("3:  0", 3), ("3: 0\n", 4), ("3: 0,1 1,,2", 9), ("3: --", 4), ("-3: -", 0),
            ("3: \u0662", 3), ("\u00b2: -", 0), ("x", 0), ("3: -,1", 4), ("3: 0 ,1", 5), ("3: +1", 3),
        ):
            self.assert_error(BadText(place), family_from, text)

    def test_the_longest_beginning_for_all_short_texts(self):
        for head in ("", "1", "3: ", "3: 1"):
            for many in range(5):
                for signs in itertools.product(SIGNS, repeat=many):
                    self.check_text(head + "".join(signs))

    def check_text(self, text):
        try:
            family_from(text)
            place = None
        except BadFamily:
            place = None
        except BadText as error:
            place = error.place
        expected = None
        if not is_whole(text):
            expected = max(end for end in range(len(text) + 1) if is_begun(text[:end]))
        self.assertEqual(place, expected, repr(text))

    def test_the_form_alone_bounds_nothing(self):
        for text, place in (
            ("0: -", -1), ("11: -", -1), ("99: 0", -1), ("3: 3", 0), ("3: 0,0", 0), ("3: 0 1 0", 2),
            ("3: 1,0 0,1 77", 1), ("3: - 0,1 2 99", 3),
        ):
            self.assert_error(BadFamily(place), family_from, text)
