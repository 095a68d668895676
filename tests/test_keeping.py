import unittest
from itertools import islice

from helpers import naive_value, raised, random_family, random_rows, random_rules, sources
from joinpast.books import Book
from joinpast.errors import RowsDiffer
from joinpast.families import Family
from joinpast.keeping import breaks, first_break, keeps

SAME = [(0, -1), (1, 1)]
STEADY = Book(["x"], [[("x", 1, 1), ("x", 0, -1)]])


def in_order(count):
    """Return the first places in the order of places."""
    places = [0]
    for far in range(1, count):
        places.extend([far, -far])
    return places


class KeepingTest(unittest.TestCase):
    def test_interface_example(self):
        found = [list(breaks(STEADY, Family.pulse(["x"], "x", place=3))), first_break(STEADY, Family.zero(["x"]))]
        self.assertEqual(found, [[(2, 0), (3, 0)], None])

    def test_keeps(self):
        steady = Family(["x"], 0, [[5]], before=SAME, after=SAME)
        self.assertIs(keeps(STEADY, steady), True)
        self.assertIs(keeps(STEADY, Family(["x"], 0, [[5]], before=SAME)), False)
        self.assertIs(keeps(STEADY, Family(["x"], 0, [[5]], after=SAME)), False)
        self.assertIs(keeps(Book.free(["x"]), Family.pulse(["x"], "x")), True)
        self.assertIs(keeps(Book.zero(["x"]), Family.pulse(["x"], "x", place=60)), False)
        self.assertIs(keeps(Book.zero(["x"]), Family.zero(["x"])), True)

    def test_places_in_their_order(self):
        book = Book(["x"], [[("x", 0, 1)]])
        family = Family(["x"], -4, [[1] * 8])
        self.assertEqual([place for place, _ in breaks(book, family)], [0, 1, -1, 2, -2, 3, -3, -4])
        far = Family(["x"], -21, [[1] + [0] * 40 + [1]])
        self.assertEqual(list(breaks(book, far)), [(20, 0), (-21, 0)])
        self.assertEqual(list(breaks(book, far.turned())), [(-20, 0), (21, 0)])
        self.assertEqual(list(breaks(book, Family.pulse(["x"], "x"))), [(0, 0)])

    def test_several_rules_at_one_place(self):
        rule = [("x", 0, 1)]
        book = Book(["x", "y"], [rule, [], [("y", 1, 2)], rule, [("x", 0, 1), ("y", 0, -1)]])
        family = Family(["x", "y"], 0, [[1, 0], [0, 3]])
        self.assertEqual(list(breaks(book, family)), [(0, 0), (0, 2), (0, 3), (0, 4), (1, 4)])
        self.assertEqual(first_break(book, family), (0, 0))

    def test_breaks_without_end(self):
        book = Book(["x"], [[("x", 0, 1)], [("x", 0, 2), ("x", 1, -2)]])
        right = Family(["x"], 0, [[1]], after=SAME)
        expected = [(0, 0), (1, 0), (-1, 1)] + [(place, 0) for place in range(2, 60)]
        self.assertEqual(list(islice(breaks(book, right), 61)), expected)
        left = right.turned()
        self.assertEqual(list(islice(breaks(book, left), 4)), [(0, 0), (0, 1), (-1, 0), (-2, 0)])
        both = Family(["x"], 0, [[1]], before=[(0, 1), (1, 1)], after=[(0, 1), (1, 1)])
        self.assertEqual(list(islice(breaks(book, both), 5)), [(0, 0), (0, 1), (1, 0), (1, 1), (-1, 0)])
        self.assertEqual(len(list(islice(breaks(book, both), 3000))), 3000)

    def test_the_given_rules_count(self):
        book = Book(["x"], [[("x", 5, 1)]])
        self.assertEqual(list(breaks(book, Family.pulse(["x"], "x"))), [(-5, 0)])
        self.assertEqual(first_break(book, Family.pulse(["x"], "x")), (-5, 0))
        self.assertEqual(first_break(Book(["x"], book.rules), Family.pulse(["x"], "x")), (0, 0))

    def test_other_rows(self):
        family = Family.zero(["x", "y"])
        for call in (keeps, first_break, lambda book, other: list(breaks(book, other))):
            error = raised(call, STEADY, family)
            self.assertIsInstance(error, RowsDiffer)
            self.assertEqual((error.one, error.two), (("x",), ("x", "y")))

    def test_a_generator_waits_with_its_errors(self):
        held = breaks(STEADY, Family.zero(["y"]))
        self.assertRaises(RowsDiffer, next, held)
        self.assertRaises(StopIteration, next, breaks(STEADY, Family.zero(["x"])))

    def test_against_naive_values(self):
        for source in sources(120):
            rows = random_rows(source, 2)
            book = Book(rows, random_rules(source, rows))
            family = random_family(source, rows)
            expected = [
                (place, index) for place in in_order(15) for index, rule in enumerate(book.given)
                if naive_value(family, rule, place)
            ]
            found = [pair for pair in islice(breaks(book, family), len(expected))]
            self.assertEqual(found, expected)
            self.assertIs(keeps(book, family), not expected)
            self.assertEqual(first_break(book, family), expected[0] if expected else None)
            if all(family.applied([(0, 1)]).extent() is None for _ in rows) or family.is_finite:
                self.assertEqual(list(breaks(book, family)), expected)


if __name__ == "__main__":
    unittest.main()
