import unittest

from helpers import Naive, naive_value, pair, raised, random_family_parts, random_rows, random_sum, sources
from joinpast.courses import course, value
from joinpast.errors import BadName, UnknownRow
from joinpast.families import Family

SAME = [(0, -1), (1, 1)]


class CoursesTest(unittest.TestCase):
    def test_values(self):
        family = Family(["a", "b"], 0, [[1, 2], [(1, 2), 5]], after=SAME)
        self.assertEqual(value(family, [("a", 0, 3), ("b", 1, -2)], 0), (-7, 1))
        self.assertEqual(value(family, [("a", 0, 1), ("b", 0, 1)], 0), (3, 2))
        self.assertEqual(value(family, [("a", 3, 1), ("b", -2, 1)], -1), (2, 1))
        self.assertEqual(value(family, [("a", 1, 1)], 99), (2, 1))
        self.assertEqual(value(family, [], 4), (0, 1))
        self.assertEqual(value(family, [("z", 0, 1), ("z", 0, -1)], 4), (0, 1))

    def test_course(self):
        family = Family(["a"], 0, [[1, 1, 2]], after=[(0, -1), (1, -1), (2, 1)])
        found = course(family, [("a", 1, 1), ("a", 0, -1)])
        self.assertEqual(found.rows, ("sum",))
        self.assertEqual([found("sum", at)[0] for at in range(-3, 5)], [0, 0, 1, 0, 1, 1, 2, 3])
        self.assertEqual(course(family, [("a", 0, 2)], name="x9").rows, ("x9",))
        self.assertEqual(course(family, [], name="a"), Family.zero(["a"]))

    def test_errors_in_their_order(self):
        family = Family.zero(["b", "a"])
        error = raised(course, family, [("c", 0, 1)], name="Sum")
        self.assertIsInstance(error, BadName)
        self.assertEqual(error.name, "Sum")
        terms = [("z", 0, 1), ("y", 0, 1), ("x", 0, 0), ("a", 0, 1)]
        for error in (raised(course, family, terms), raised(value, family, terms, 0)):
            self.assertIsInstance(error, UnknownRow)
            self.assertEqual(error.name, "y")
        self.assertIsNone(raised(value, family, [("x", 0, 0)], 0))

    def test_against_naive_values(self):
        for source in sources(150):
            rows = random_rows(source)
            parts, ends = random_family_parts(source, rows)
            family, naive = Family(*parts, **ends), Naive(*parts, **ends)
            terms = random_sum(source, rows)
            found = course(family, terms)
            for place in range(-9, 10):
                expected = pair(sum([c * naive(row, place + shift) for row, shift, c in terms]))
                self.assertEqual(value(family, terms, place), expected)
                self.assertEqual(found("sum", place), expected)
            self.assertEqual(pair(naive_value(family, terms, 3)), value(family, terms, 3))


if __name__ == "__main__":
    unittest.main()
