"""The errors of the interface: their classes and fields."""

import unittest

from rootstalls import errors

PLAIN = (
    "BadNumber BadWares BadWare BadMove BadIndex BadAmount BadPurse BadWish BadScales BadOrder "
    "BadTold NotFit NotTied BadLot BadRates BadRoute BadBroker NothingDone BadBar NotApart "
    "BadAnswer BadDrags NoLine OtherStalls BadRing OtherWares"
).split()
FIELDS = {
    "BadFraction": "place", "BadStall": "index", "BadDeal": "index", "BadSlip": "index",
    "BadCustomer": "index", "BadText": "index", "TooMany": "limit", "NoName": "name",
    "WrongSign": "ware",
}


class Errors(unittest.TestCase):
    def test_all_lie_directly_below_stall_error(self):
        self.assertEqual((ValueError,), errors.StallError.__bases__)
        for name in PLAIN + list(FIELDS):
            self.assertEqual((errors.StallError,), getattr(errors, name).__bases__, name)

    def test_there_are_no_others(self):
        classes = [name for name, one in vars(errors).items() if isinstance(one, type)]
        self.assertEqual(sorted(PLAIN + list(FIELDS) + ["StallError"]), sorted(classes))

    def test_plain_ones_are_made_of_nothing(self):
        for name in PLAIN:
            self.assertEqual({}, vars(getattr(errors, name)()))

    def test_fields_keep_objects_of_any_kind(self):
        for name, field in FIELDS.items():
            for kept in (0, -1, 7, None, "x", [1, [2]], {}, object(), errors.BadWare, 10 ** 5000):
                error = getattr(errors, name)(kept)
                self.assertEqual([field], list(vars(error)))
                self.assertIs(kept, getattr(error, field))

    def test_fields_have_to_be_passed(self):
        for name in FIELDS:
            with self.assertRaises(TypeError):
                getattr(errors, name)()


if __name__ == "__main__":
    unittest.main()
