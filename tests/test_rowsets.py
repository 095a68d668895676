import unittest

from helpers import raised
from joinpast.errors import BadName, NoRows, RowTwice
from joinpast.rowsets import is_row_name, row_set


class RowsetsTest(unittest.TestCase):
    def test_row_names(self):
        for name in ("a", "z", "a0", "z9", "level", "x0y1", "abcdefghij", "a123456789"):
            self.assertIs(is_row_name(name), True, name)
        for name in ("", "0", "9a", "A", "aB", "a_b", "a b", "a ", " a", "a\n", "a-", "abcdefghijk", "a.b", "`", "{"):
            self.assertIs(is_row_name(name), False, name)
        for sign in "`{@[/:~!":
            self.assertIs(is_row_name("a" + sign), False, sign)

    def test_row_set(self):
        self.assertEqual(row_set(["b", "a10", "a", "a2"]), ("a", "a10", "a2", "b"))
        self.assertEqual(row_set(("x",)), ("x",))
        self.assertEqual(row_set(list("fedcba")), tuple("abcdef"))

    def test_errors_in_their_order(self):
        self.assertIsInstance(raised(row_set, []), NoRows)
        self.assertIsInstance(raised(row_set, ()), NoRows)
        error = raised(row_set, ["a", "a", "B", ""])
        self.assertIsInstance(error, BadName)
        self.assertEqual(error.name, "B")
        error = raised(row_set, ["c", "b", "a", "b", "c"])
        self.assertIsInstance(error, RowTwice)
        self.assertEqual(error.name, "b")

    def test_an_argument_stays_as_it_is(self):
        names = ["b", "a"]
        row_set(names)
        self.assertEqual(names, ["b", "a"])


if __name__ == "__main__":
    unittest.main()
