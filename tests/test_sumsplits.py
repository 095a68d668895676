import unittest

from helpers import equal_book, kept_family, random_book, random_rows, raised, same, sources
from joinpast.books import Book
from joinpast.errors import Broken, RowsDiffer
from joinpast.families import Family
from joinpast.keeping import first_break, keeps
from joinpast.sumsplits import split_sum

SAME = [(0, -1), (1, 1)]
STEADY = Book(["x"], [[("x", 0, 1), ("x", 1, -1)]])
TURNING = Book(["x"], [[("x", 0, 1), ("x", 1, 1)]])


class SumSplitsTest(unittest.TestCase):
    def assert_split(self, one, two, family):
        found = split_sum(one, two, family)
        self.assertIsInstance(found, tuple)
        first, second = found
        self.assertEqual(first + second, family)
        self.assertTrue(keeps(one, first) and keeps(two, second))
        return found

    def test_known_books(self):
        family = Family(["x"], 0, [[5, 1]], before=[(0, -1), (2, 1)], after=[(0, -1), (2, 1)])
        first, second = self.assert_split(STEADY, TURNING, family)
        self.assertEqual([first("x", 0), second("x", 0), second("x", 1)], [(3, 1), (2, 1), (-2, 1)])
        free, zero = Book.free(["x"]), Book.zero(["x"])
        pulse = Family.pulse(["x"], "x", place=30)
        for one, two in ((free, zero), (zero, free), (free, free), (STEADY, free), (free, STEADY)):
            self.assert_split(one, two, pulse)
        self.assertTrue(same(self.assert_split(free, zero, pulse), (pulse, Family.zero(["x"]))))
        self.assert_split(zero, zero, Family.zero(["x"]))
        five = Family(["x"], 0, [[5]], before=SAME, after=SAME)
        self.assert_split(STEADY, STEADY, five)

    def test_errors_in_their_order(self):
        other = Book.free(["y"])
        error = raised(split_sum, STEADY, other, Family.zero(["z"]))
        self.assertIsInstance(error, RowsDiffer)
        self.assertEqual((error.one, error.two), (("x",), ("y",)))
        error = raised(split_sum, STEADY, TURNING, Family.zero(["z"]))
        self.assertIsInstance(error, RowsDiffer)
        self.assertEqual((error.one, error.two), (("x",), ("z",)))
        error = raised(split_sum, STEADY, TURNING, Family.pulse(["x"], "x", place=-5))
        self.assertIsInstance(error, Broken)
        self.assertEqual((error.place, error.index), (-5, 0))
        rows = ["a", "b"]
        one = Book(rows, [[("b", 0, 1)], [], [("a", 0, 1)]])
        two = Book(rows, [[("b", 0, 2)], [("a", 0, 1), ("a", 1, 1)]])
        error = raised(split_sum, one, two, Family.pulse(rows, "b", place=3))
        self.assertEqual((error.place, error.index), (3, 1))
        self.assertEqual(first_break(one + two, Family.pulse(rows, "b", place=3)), (3, 1))

    def test_books_of_chance(self):
        for source in sources(100):
            rows = random_rows(source, 3)
            one, two = random_book(source, rows), random_book(source, rows)
            family = kept_family(source, one) + kept_family(source, two)
            found = self.assert_split(one, two, family)
            self.assertTrue(same(found, split_sum(equal_book(source, one), equal_book(source, two), family)))


if __name__ == "__main__":
    unittest.main()
