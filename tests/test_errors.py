import unittest

from joinpast import errors

FIELDS = {
    "NoQuotient": (), "ZeroPolynomial": (), "ZeroSum": (),
    "NoRows": (), "BadName": ("name",), "RowTwice": ("name",), "UnknownRow": ("name",),
    "RowsDiffer": ("one", "two"), "SpotTwice": ("row", "place"),
    "BadStretch": ("count",), "ShortStretch": ("span",), "TooLong": ("longest",), "CannotStand": ("terms",),
    "Broken": ("place", "index"),
    "NotFinite": (), "BadParts": ("count",), "Barred": ("terms",), "NotCourse": ("count",),
    "BreaksOwnRule": ("place",), "NotBlocked": ("count",),
    "Unsure": (), "Contradiction": (), "NotStricter": ("terms",), "NoFamilies": (),
    "NotLet": ("index",), "NotFree": ("rows",), "NotTimely": ("rows",), "NotEntered": ("index",),
    "NothingToUndo": (), "BadNotation": ("line",),
}


class ErrorsTest(unittest.TestCase):
    def test_the_base_class_is_a_value_error(self):
        self.assertEqual(errors.RowError.__bases__, (ValueError,))

    def test_every_error_is_a_direct_subclass_with_its_fields(self):
        for name, fields in FIELDS.items():
            made = getattr(errors, name)
            self.assertEqual(made.__bases__, (errors.RowError,), name)
            values = [("x", at) for at in range(len(fields))]
            error = made(*values)
            self.assertEqual([getattr(error, field) for field in fields], values, name)
            self.assertEqual(sorted(vars(error)), sorted(fields), name)

    def test_an_error_is_called_with_exactly_its_arguments(self):
        for name, fields in FIELDS.items():
            if fields:
                self.assertRaises(TypeError, getattr(errors, name))


if __name__ == "__main__":
    unittest.main()
