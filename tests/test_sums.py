import unittest

from helpers import merged_sum, random_polynomial, random_sum, sources
from joinpast.errors import ZeroSum
from joinpast.sums import moved_sum, normal_rule, ordered, part_of, reach, rows_of, sum_plus, sum_times

CANCELLED = [("a", 1, 2), ("b", 0, 0), ("a", 1, -2)]


def plain(terms):
    return tuple((row, shift, c) for (row, shift), c in sorted(merged_sum(terms).items()))


class SumsTest(unittest.TestCase):
    def test_interface_examples(self):
        self.assertEqual(ordered([("b", 0, 1), ("a", 1, 2), ("b", 0, -1)]), (("a", 1, 2),))
        self.assertEqual(normal_rule([("b", 3, -2), ("c", 5, 4)]), (("b", 0, 1), ("c", 2, -2)))

    def test_ordered(self):
        self.assertEqual(ordered([]), ())
        self.assertEqual(ordered(CANCELLED), ())
        terms = [["b", -1, 3], ["a10", 5, 1], ["a2", 0, 1], ["b", -3, 1], ["b", -1, 4]]
        self.assertEqual(ordered(terms), (("a10", 5, 1), ("a2", 0, 1), ("b", -3, 1), ("b", -1, 7)))
        self.assertEqual(terms[0], ["b", -1, 3])

    def test_plus(self):
        self.assertEqual(sum_plus([("a", 0, 1)], [("a", 0, 2), ("a", -1, 1)]), (("a", -1, 1), ("a", 0, 3)))
        self.assertEqual(sum_plus([("a", 0, 1)], [("a", 0, -1)]), ())
        self.assertEqual(sum_plus((), ()), ())

    def test_times(self):
        self.assertEqual(
            sum_times([(1, 2), (-1, 3)], [("b", 0, 1), ("a", 4, -1)]),
            (("a", 3, -3), ("a", 5, -2), ("b", -1, 3), ("b", 1, 2)),
        )
        self.assertEqual(sum_times([(0, -1), (1, 1)], [("a", 0, 1), ("a", 1, 1)]), (("a", 0, -1), ("a", 2, 1)))
        self.assertEqual(sum_times([], [("a", 0, 1)]), ())
        self.assertEqual(sum_times([(1, 1)], []), ())
        self.assertEqual(sum_times([(1, 1), (1, -1)], [("a", 0, 1)]), ())

    def test_moved(self):
        self.assertEqual(moved_sum([("b", 2, 1), ("a", 0, 0), ("a", -1, 2)], -60), (("a", -61, 2), ("b", -58, 1)))
        self.assertEqual(moved_sum(CANCELLED, 60), ())

    def test_part_of(self):
        terms = [("b", 2, 1), ("a", 1, 5), ("b", -1, 3), ("b", 2, 1)]
        self.assertEqual(part_of(terms, "b"), ((-1, 3), (2, 2)))
        self.assertEqual(part_of(terms, "c"), ())
        self.assertEqual(part_of(CANCELLED, "a"), ())

    def test_rows_of(self):
        self.assertEqual(rows_of([("b", 0, 1), ("a", 0, 1), ("b", 3, 1), ("c", 1, 0)]), ("a", "b"))
        self.assertEqual(rows_of(CANCELLED), ())
        self.assertEqual(rows_of([]), ())

    def test_reach(self):
        self.assertEqual(reach([("a", 5, 1)]), 0)
        self.assertEqual(reach([("b", -2, 1), ("a", 3, 1), ("c", 9, 0)]), 5)
        for zero in ([], CANCELLED):
            self.assertRaises(ZeroSum, reach, zero)

    def test_normal_rule(self):
        self.assertEqual(normal_rule([]), ())
        self.assertEqual(normal_rule(CANCELLED), ())
        self.assertEqual(normal_rule([("b", -4, 6), ("a", -1, -9)]), (("a", 3, 3), ("b", 0, -2)))
        self.assertEqual(normal_rule([("a", 0, 1), ("a", 1, -5)]), (("a", 0, 1), ("a", 1, -5)))
        self.assertEqual(normal_rule([("a", 7, -4)]), (("a", 0, 1),))

    def test_against_plain_arithmetic(self):
        for source in sources(100):
            one, two = random_sum(source, "abc"), random_sum(source, "abc")
            p = random_polynomial(source)
            self.assertEqual(ordered(one), plain(one))
            self.assertEqual(sum_plus(one, two), plain(one + two))
            self.assertEqual(sum_times(p, one), plain([(r, s + t, c * d) for t, d in p for r, s, c in one]))
            for row in "abc":
                self.assertEqual(part_of(one, row), tuple((s, c) for r, s, c in plain(one) if r == row))


if __name__ == "__main__":
    unittest.main()
