import unittest

from tests.helpers import Case
from turnlots import errors
from turnlots.errors import LotsError

NAMES = {
    "BadLot": ["place"], "BadFamily": ["place"], "BadThing": ["thing"], "BadNumber": ["name"],
    "BadPair": ["thing"], "BadTable": ["place"], "BadText": ["place"], "BadEdge": ["lot", "thing"],
    "BadWish": ["place"], "BadStretch": ["place"], "BadSort": ["word"], "BadLink": ["place"],
    "BrokenRule": ["rule", "lot"], "BrokenMet": ["rule"], "NoLot": [], "NotInside": ["lot"],
    "NotGated": ["lot", "other", "thing"], "NotEven": ["lot", "other"], "NotWhole": ["lot"],
    "NotParted": ["lot"], "NotBonded": ["thing", "other"], "NotFull": ["lot"],
    "NotBothWays": ["lot", "other", "thing"], "NotGlued": ["lot"], "NotAPiece": ["lot"],
    "BadWord": ["place"], "EmptyDesk": [], "NotHanded": [], "OtherSize": ["size"],
    "TooMany": ["name"],
}


class ErrorsTest(Case):
    def test_the_attributes_stand_in_the_order_of_the_arguments(self):
        for name, attributes in NAMES.items():
            values = [(place,) for place in range(len(attributes))]
            error = getattr(errors, name)(*values)
            self.assertEqual(vars(error), dict(zip(attributes, values)), name)

    def test_no_other_number_of_arguments_is_taken(self):
        for name, attributes in NAMES.items():
            if attributes:
                with self.assertRaises(TypeError):
                    getattr(errors, name)(*attributes, "one more")

    def test_point_13_each_error_stands_directly_under_lots_error(self):
        self.assertEqual(LotsError.__bases__, (Exception,))
        for name in NAMES:
            self.assertEqual(getattr(errors, name).__bases__, (LotsError,), name)

    def test_there_are_no_others(self):
        found = [
            name for name, value in vars(errors).items()
            if isinstance(value, type) and issubclass(value, LotsError)
        ]
        self.assertEqual(sorted(found), sorted([*NAMES, "LotsError"]))


if __name__ == "__main__":
    unittest.main()
