import unittest

from bandscribe import errors

FIELDS = {
    "NoSigns": [], "TooMany": ["many"], "NoWord": ["number"], "NoRow": ["number"], "Barred": ["length"],
    "NoPlace": ["place"], "NoNumber": [], "NoRate": [], "NoSplit": [], "NoLength": ["length"],
    "Scarce": ["length", "rows"], "Open": [], "NoData": ["number"], "NoForm": [], "NoBand": [], "NoWriter": [],
}


class ErrorClasses(unittest.TestCase):
    def test_band_error_stands_straight_under_value_error(self):
        self.assertEqual(errors.BandError.__bases__, (ValueError,))

    def test_each_refusal_stands_straight_under_band_error(self):
        for name in FIELDS:
            self.assertEqual(getattr(errors, name).__bases__, (errors.BandError,), name)

    def test_no_refusal_stands_under_another(self):
        for name in FIELDS:
            for other in FIELDS:
                if name != other:
                    self.assertFalse(issubclass(getattr(errors, name), getattr(errors, other)), (name, other))

    def test_fields_are_there(self):
        for name, fields in FIELDS.items():
            values = list(range(7, 7 + len(fields)))
            error = getattr(errors, name)(*values)
            self.assertEqual([getattr(error, field) for field in fields], values, name)

    def test_a_place_of_any_kind_is_kept(self):
        knot = []
        knot.append(knot)
        for thing in (None, True, 3, "x", [1, [2]], {"a": []}):
            self.assertEqual(errors.NoPlace(thing).place, thing)
        self.assertIs(errors.NoPlace(knot).place, knot)
        self.assertIsNone(errors.NoData(None).number)

    def test_words_can_be_shown(self):
        for name, fields in FIELDS.items():
            self.assertIsInstance(str(getattr(errors, name)(*fields)), str)


if __name__ == "__main__":
    unittest.main()
