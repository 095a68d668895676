import unittest
from fractions import Fraction

from helpers import (
    equal_book, kept_family, naive_joint, number, random_book, random_rows, raised, shifted_lines, solvable, sources,
)
from joinpast.books import Book
from joinpast.errors import Barred, Broken, RowsDiffer
from joinpast.families import Family
from joinpast.joins import is_bar
from joinpast.keeping import keeps
from joinpast.quietest import quietest

ROWS = ["level", "pump"]
PUMP = Book(ROWS, [[("level", 1, 1), ("level", 0, -1), ("pump", 0, -1)]])
SAME = [(0, -1), (1, 1)]
FULL = Family(ROWS, 0, [[1], [0]], before=SAME, after=SAME)
EMPTY = Family.zero(ROWS)


def kernel(lines, spots):
    """Return a basis of what makes lines over the spots zero."""
    found = []
    for free in spots:
        columns = {spot: at for at, spot in enumerate(spots)}
        wanted = [{columns[spot]: c for spot, c in line.items()} for line in lines]
        fixed = {columns[free]: Fraction(1), len(spots): Fraction(-1)}
        held = solvable(wanted + [fixed] + [{columns[spot]: 1} for spot in spots[:columns[free]]], len(spots))
        if held is not None:
            found.append(dict(zip(spots, held)))
    return found


class QuietestTest(unittest.TestCase):
    def assert_quietest(self, book, past, future, place, gap):
        """Compare with the condition that no change that is free costs nothing at first."""
        if naive_joint(book.given, past, future, place, gap) is None:
            error = raised(quietest, book, past, future, place=place, gap=gap)
            self.assertIsInstance(error, Barred)
            self.assertTrue(is_bar(book, past, future, error.terms, place=place, gap=gap))
            return None
        family = quietest(book, past, future, place=place, gap=gap)
        self.assertTrue(keeps(book, family))
        self.assertEqual(family.window(place - 20, 20), past.window(place - 20, 20))
        self.assertEqual(family.window(place + gap, 20), future.window(place + gap, 20))
        spots = [(at, row) for at in range(gap) for row in book.rows]
        lines = [
            {key: c for key, c in line.items() if key in spots}
            for line in shifted_lines(book.given, -20, gap + 20)
        ]
        for change in kernel([line for line in lines if line], spots):
            total = sum(change[at, row] * number(family(row, place + at)) for at, row in spots)
            self.assertEqual(total, 0)
        return family

    def test_filling_a_tank_slowly(self):
        family = quietest(PUMP, EMPTY, FULL, gap=2)
        self.assertEqual(family.window(0, 2), (((0, 1), (1, 3)), ((1, 3), (2, 3))))
        self.assertEqual(self.assert_quietest(PUMP, EMPTY, FULL, 0, 2), family)
        self.assertEqual(self.assert_quietest(PUMP, EMPTY, FULL, -30, 5), quietest(PUMP, EMPTY, FULL, gap=5).moved(-30))
        self.assertEqual(quietest(PUMP, EMPTY, FULL, gap=1).window(0, 1), (((0, 1),), ((1, 1),)))

    def test_an_empty_gap_and_the_defaults(self):
        self.assertEqual(quietest(PUMP, FULL, FULL), FULL)
        self.assertIsInstance(raised(quietest, PUMP, EMPTY, FULL), Barred)

    def test_a_book_without_rules_and_the_book_of_zeros(self):
        one = Family(["a"], 0, [[7]], before=SAME, after=SAME)
        family = quietest(Book.free(["a"]), one, one, place=2, gap=3)
        self.assertEqual(family.window(1, 5), (((7, 1), (0, 1), (0, 1), (0, 1), (7, 1)),))
        zero = Family.zero(["a"])
        self.assertEqual(quietest(Book.zero(["a"]), zero, zero, gap=30), zero)

    def test_what_is_fixed_stays(self):
        steady = Book(["x"], [[("x", 0, 1), ("x", 1, -1)]])
        five = Family(["x"], 0, [[5]], before=SAME, after=SAME)
        self.assertEqual(quietest(steady, five, five, gap=4), five)

    def test_errors_in_their_order(self):
        other, broken = Family.zero(["x"]), Family.pulse(ROWS, "pump", place=2)
        for past, future in ((other, broken), (broken, other)):
            self.assertIsInstance(raised(quietest, PUMP, past, future), RowsDiffer)
        error = raised(quietest, PUMP, FULL, broken)
        self.assertIsInstance(error, Broken)
        self.assertEqual((error.place, error.index), (2, 0))
        error = raised(quietest, PUMP, EMPTY, FULL, place=4)
        self.assertTrue(is_bar(PUMP, EMPTY, FULL, error.terms, place=4))

    def test_joints_of_chance(self):
        for source in sources(80):
            rows = random_rows(source, 3)
            book = random_book(source, rows)
            past, future = kept_family(source, book), kept_family(source, book)
            place, gap = source.randint(-3, 3), source.randint(0, 4)
            family = self.assert_quietest(book, past, future, place, gap)
            if family is not None:
                self.assertEqual(family, quietest(equal_book(source, book), past, future, place=place, gap=gap))
            if book.free_count:
                self.assert_quietest(book, past, past.scaled(1), place, gap)

    def test_a_long_gap(self):
        family = quietest(PUMP, EMPTY, FULL, gap=30)
        self.assertTrue(keeps(PUMP, family))
        self.assertEqual(sum(number(entry) for entry in family.window(0, 30)[1]), 1)


if __name__ == "__main__":
    unittest.main()
