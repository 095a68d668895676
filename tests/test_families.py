import unittest

from helpers import (
    Naive, all_tuples, merged, number, pair, raised, random_entry, random_family, random_family_parts,
    random_polynomial, random_rows, sources,
)
from joinpast.books import Book
from joinpast.errors import (
    BadName, BadStretch, NoRows, RowsDiffer, RowTwice, ShortStretch, UnknownRow, ZeroPolynomial,
)
from joinpast.families import Family

SAME = [(0, -1), (1, 1)]
GROWN = [(0, -1), (1, -1), (2, 1)]
PLACES = list(range(-12, 13))


class FamilyFieldsTest(unittest.TestCase):
    def test_interface_example(self):
        family = Family(["x"], 0, [[1, 2]], after=[(0, -1), (1, -1), (2, 1)])
        self.assertEqual(
            [family("x", 1), family("x", 3), family("x", -1), family.extent(), (2 * family).entry("x", 2)],
            [(2, 1), (5, 1), (0, 1), (0, None), (6, 1)],
        )

    def test_fields_are_what_was_passed(self):
        family = Family(["b", "a"], -2, [[1, (2, -4), 3], [[0, 7], 5, 6]],
                        before=[(3, -2), (2, 4), (9, 0)], after=((5, -3),))
        self.assertEqual(family.rows, ("a", "b"))
        self.assertEqual(family.first, -2)
        self.assertEqual(family.entries, (((0, 1), (5, 1), (6, 1)), ((1, 1), (-1, 2), (3, 1))))
        self.assertEqual((family.before, family.after), (((0, -2), (1, 1)), ((0, 1),)))
        self.assertTrue(all_tuples(family.entries) and all_tuples(family.rows))
        plain = Family(["a"], 30, [[1]])
        self.assertEqual((plain.before, plain.after), (((0, 1),), ((0, 1),)))

    def test_an_empty_stretch(self):
        family = Family(["a", "b"], 5, [[], []])
        self.assertEqual((family.entries, family.extent(), family.is_finite), (((), ()), None, True))
        self.assertEqual(family.window(3, 4), (((0, 1),) * 4, ((0, 1),) * 4))

    def test_errors_in_their_order(self):
        self.assertIsInstance(raised(Family, [], 0, []), NoRows)
        self.assertIsInstance(raised(Family, ["a", "A", "a"], 0, []), BadName)
        self.assertIsInstance(raised(Family, ["a", "a"], 0, [], before=[]), RowTwice)
        for entries in ([], [[1]], [[1], [1, 2], [3]]):
            error = raised(Family, ["a", "b"], 0, entries, before=[])
            self.assertIsInstance(error, BadStretch)
            self.assertEqual(error.count, len(entries))
        error = raised(Family, ["a", "b", "c"], 0, [[1, 1], [1, 1], [1]], before=[], after=[])
        self.assertIsInstance(error, BadStretch)
        self.assertEqual(error.count, 1)
        error = raised(Family, ["a", "b", "c"], 0, [[1], [1, 1, 1], [1, 1]])
        self.assertEqual(error.count, 3)
        self.assertIsInstance(raised(Family, ["a"], 0, [[]], before=GROWN, after=[]), ZeroPolynomial)
        self.assertIsInstance(raised(Family, ["a"], 0, [[]], before=[(1, 0)], after=GROWN), ZeroPolynomial)
        self.assertIsInstance(raised(Family, ["a"], 0, [[]], after=[(1, 3), (1, -3)]), ZeroPolynomial)
        error = raised(Family, ["a"], 0, [[]], before=SAME, after=GROWN)
        self.assertIsInstance(error, ShortStretch)
        self.assertEqual(error.span, 1)
        error = raised(Family, ["a"], 0, [[7]], before=SAME, after=[(-3, 1), (9, 1)])
        self.assertIsInstance(error, ShortStretch)
        self.assertEqual(error.span, 12)
        self.assertIsNone(raised(Family, ["a"], 0, [[1, 2]], before=GROWN, after=GROWN))

    def test_arguments_are_copied(self):
        rows, entries, after = ["b", "a"], [[[1, 2]], [3]], [[0, -1], [1, 1]]
        family = Family(rows, 0, entries, after=after)
        rows[0] = "c"
        entries[0][0][0] = 9
        entries[1].append(4)
        entries.append([])
        after[0][1] = 5
        self.assertEqual(family, Family(["b", "a"], 0, [[(1, 2)], [3]], after=SAME))
        self.assertEqual((family.rows, family.after), (("a", "b"), ((0, -1), (1, 1))))


class EntriesTest(unittest.TestCase):
    def test_both_sides(self):
        family = Family(["x"], 0, [[1, 2, 4]], before=[(0, 2), (1, -1)], after=[(0, -1), (1, 1)])
        entries = [family("x", place) for place in range(-3, 6)]
        self.assertEqual(entries, [(1, 8), (1, 4), (1, 2), (1, 1), (2, 1), (4, 1), (4, 1), (4, 1), (4, 1)])
        self.assertEqual(family.entry("x", 100), (4, 1))
        self.assertEqual(family.entry("x", -100), (1, 2 ** 100))

    def test_by_default_all_else_is_zero(self):
        family = Family(["x"], -1, [[5, 6]])
        self.assertEqual([family("x", place) for place in range(-3, 3)],
                         [(0, 1), (0, 1), (5, 1), (6, 1), (0, 1), (0, 1)])

    def test_polynomials_may_overlap_in_the_stretch(self):
        family = Family(["x"], 0, [[1, 1]], before=GROWN, after=GROWN)
        self.assertEqual([family("x", place)[0] for place in range(-4, 5)], [2, -1, 1, 0, 1, 1, 2, 3, 5])

    def test_unknown_row(self):
        family = Family.zero(["a"])
        for call in (family, family.entry):
            error = raised(call, "b", 0)
            self.assertIsInstance(error, UnknownRow)
            self.assertEqual(error.name, "b")

    def test_window(self):
        family = Family(["b", "a"], 0, [[1, 2], [3, (1, 2)]], after=SAME)
        self.assertEqual(family.window(-1, 4), (
            ((0, 1), (3, 1), (1, 2), (1, 2)), ((0, 1), (1, 1), (2, 1), (2, 1)),
        ))
        self.assertEqual(family.window(7, 0), ((), ()))
        self.assertEqual(family.window(-100, 1), (((0, 1),), ((0, 1),)))
        self.assertEqual(family.window(60, 2), (((1, 2), (1, 2)), ((2, 1), (2, 1))))
        self.assertEqual(len(family.window(-30, 60)[1]), 60)

    def test_against_naive_continuation(self):
        for source in sources(150):
            rows = random_rows(source)
            parts, ends = random_family_parts(source, rows)
            family, naive = Family(*parts, **ends), Naive(*parts, **ends)
            for row in rows:
                expected = [pair(naive(row, place)) for place in PLACES]
                self.assertEqual([family(row, place) for place in PLACES], expected, (parts, ends))
            low, length = source.randint(-12, 4), source.randint(0, 8)
            expected = tuple(tuple(pair(naive(row, low + at)) for at in range(length)) for row in sorted(rows))
            self.assertEqual(family.window(low, length), expected)


class FamilyOperatorsTest(unittest.TestCase):
    def assert_entries(self, family, rows, rule):
        self.assertEqual(family.rows, tuple(sorted(rows)))
        for row in rows:
            for place in PLACES:
                self.assertEqual(family(row, place), pair(rule(row, place)), (row, place))

    def test_sums_and_multiples(self):
        for source in sources(120):
            rows = random_rows(source, 2)
            one, two = random_family(source, rows), random_family(source, rows)
            k = source.choice([0, 1, -1, 3, 10 ** 9])
            factor = source.choice([0, 2, (-1, 3), (4, -6)])
            self.assert_entries(one + two, rows, lambda r, t: number(one(r, t)) + number(two(r, t)))
            self.assert_entries(one - two, rows, lambda r, t: number(one(r, t)) - number(two(r, t)))
            self.assert_entries(-one, rows, lambda r, t: -number(one(r, t)))
            self.assert_entries(k * one, rows, lambda r, t: k * number(one(r, t)))
            self.assert_entries(one * k, rows, lambda r, t: k * number(one(r, t)))
            self.assert_entries(one.scaled(factor), rows, lambda r, t: number(factor) * number(one(r, t)))
            self.assertTrue((one + two) - two == one)
            self.assertTrue(one + two == two + one)

    def test_sums_of_other_rows(self):
        one, two = Family.zero(["a"]), Family.zero(["a", "b"])
        for call in (lambda: one + two, lambda: one - two):
            error = raised(call)
            self.assertIsInstance(error, RowsDiffer)
            self.assertEqual((error.one, error.two), (("a",), ("a", "b")))

    def test_equality_does_not_depend_on_the_description(self):
        for source in sources(120):
            rows = random_rows(source, 2)
            parts, ends = random_family_parts(source, rows)
            family = Family(*parts, **ends)
            length = len(parts[2][0])
            low, more = source.randint(1, 3), source.randint(0, 3)
            held = family.window(family.first - low, length + low + more + 2)
            by = [(0, 1), (1, source.choice([-1, 1, 2]))]
            longer = Family(sorted(rows), family.first - low, held,
                            before=mul(family.before, by), after=mul(family.after, by))
            self.assertTrue(family == longer)
            self.assertFalse(family != longer)
            place = source.randint(-8, 8)
            self.assertFalse(family == family + Family.pulse(rows, rows[0], place=place))

    def test_equality_looks_behind_the_stretch(self):
        one = Family(["x"], 0, [[1]], after=SAME)
        self.assertFalse(one == Family(["x"], 0, [[1]]))
        self.assertFalse(one == Family(["x"], 0, [[1, 1, 1, 1, 1, 1]]))
        self.assertFalse(one == Family(["x"], 0, [[1]], before=SAME, after=SAME))
        self.assertFalse(Family(["x"], 0, [[1, 2]], after=GROWN) == Family(["x"], 0, [[1, 2]], after=[(0, 2), (1, -1)]))
        self.assertFalse(Family(["x"], 0, [[1]], before=SAME) == Family(["x"], 0, [[1]], before=[(0, 1), (1, 1)]))

    def test_equality_with_other_rows_and_other_values(self):
        family = Family.zero(["a"])
        self.assertFalse(family == Family.zero(["b"]))
        self.assertFalse(family == Family.zero(["a", "b"]))
        for other in (0, None, "a", ((),), Book.free(["a"])):
            self.assertIs(family == other, False)
            self.assertIs(family != other, True)
        self.assertTrue(family == Family(["a"], 7, [[0, 0]], before=SAME, after=GROWN))


def mul(p, q):
    return sorted(merged([(s + t, c * d) for s, c in p for t, d in q]).items())


class FamilyMethodsTest(unittest.TestCase):
    def test_moved_and_turned(self):
        for source in sources(80):
            rows = random_rows(source, 2)
            family = random_family(source, rows)
            by = source.randint(-4, 4)
            for row in rows:
                for place in PLACES:
                    self.assertEqual(family.moved(by)(row, place), family(row, place - by))
                    self.assertEqual(family.turned()(row, place), family(row, -place))
            self.assertEqual(family.turned().turned(), family)
        self.assertEqual(Family.pulse(["a"], "a").moved(60).extent(), (60, 60))
        self.assertEqual(Family(["a"], 2, [[1, 2, 3]]).turned().extent(), (-4, -2))

    def test_only(self):
        family = Family(["c", "a", "b"], 0, [[1], [2], [3]], after=SAME)
        self.assertEqual(family.only(["c", "a"]), Family(["a", "c"], 0, [[2], [1]], after=SAME))
        self.assertIsInstance(raised(family.only, []), NoRows)
        self.assertIsInstance(raised(family.only, ["z", "z", "!"]), BadName)
        self.assertIsInstance(raised(family.only, ["z", "z"]), RowTwice)
        error = raised(family.only, ["z", "b", "y"])
        self.assertIsInstance(error, UnknownRow)
        self.assertEqual(error.name, "y")

    def test_beside(self):
        one = Family(["b", "d"], 0, [[1], [2]], after=SAME)
        two = Family(["c", "a"], -3, [[3, 4], [5, 6]], before=SAME)
        both = one.beside(two)
        self.assertEqual(both.rows, ("a", "b", "c", "d"))
        for row in "abcd":
            for place in PLACES:
                self.assertEqual(both(row, place), (one if row in one.rows else two)(row, place))
        error = raised(both.beside, Family.zero(["d", "c", "z"]))
        self.assertIsInstance(error, RowTwice)
        self.assertEqual(error.name, "c")

    def test_renamed(self):
        family = Family(["a", "b"], 0, [[1], [2]], before=SAME)
        self.assertEqual(family.renamed("a", "z"), Family(["b", "z"], 0, [[2], [1]], before=SAME))
        self.assertEqual(family.renamed("a", "a"), family)
        error = raised(family.renamed, "c", "!")
        self.assertIsInstance(error, UnknownRow)
        self.assertEqual(error.name, "c")
        error = raised(family.renamed, "a", "B")
        self.assertIsInstance(error, BadName)
        self.assertEqual(error.name, "B")
        error = raised(family.renamed, "a", "b")
        self.assertIsInstance(error, RowTwice)
        self.assertEqual(error.name, "b")

    def test_applied(self):
        for source in sources(120):
            rows = random_rows(source, 2)
            family = random_family(source, rows)
            p = random_polynomial(source)
            found = family.applied(p)
            self.assertEqual(found.rows, family.rows)
            for row in rows:
                for place in PLACES:
                    expected = sum([c * number(family(row, place + shift)) for shift, c in p])
                    self.assertEqual(found(row, place), pair(expected))
        self.assertEqual(Family.pulse(["a"], "a").applied([(2, 0)]), Family.zero(["a"]))
        self.assertEqual(Family.pulse(["a"], "a").applied([(2, 5)]), 5 * Family.pulse(["a"], "a", place=-2))

    def test_zero_and_pulse(self):
        zero = Family.zero(["b", "a"])
        self.assertEqual((zero.rows, zero.extent()), (("a", "b"), None))
        pulse = Family.pulse(["b", "a"], "b", place=-7)
        self.assertEqual((pulse.rows, pulse.extent()), (("a", "b"), (-7, -7)))
        self.assertEqual((pulse("b", -7), pulse("a", -7), pulse("b", -6)), ((1, 1), (0, 1), (0, 1)))
        self.assertEqual(Family.pulse(["a"], "a").extent(), (0, 0))
        self.assertIsInstance(raised(Family.zero, []), NoRows)
        self.assertIsInstance(raised(Family.zero, ["a", "?"]), BadName)
        self.assertIsInstance(raised(Family.zero, ["a", "a"]), RowTwice)
        self.assertIsInstance(raised(Family.pulse, [], "a"), NoRows)
        self.assertIsInstance(raised(Family.pulse, ["a", "?"], "c"), BadName)
        self.assertIsInstance(raised(Family.pulse, ["a", "a"], "c"), RowTwice)
        error = raised(Family.pulse, ["a", "b"], "c")
        self.assertIsInstance(error, UnknownRow)
        self.assertEqual(error.name, "c")

    def test_extent_and_is_finite(self):
        cases = [
            (Family(["x"], 0, [[0, 1, 0, 2, 0]]), (1, 3)),
            (Family(["x"], 0, [[0, 1]], after=SAME), (1, None)),
            (Family(["x"], 0, [[1, 0]], before=SAME), (None, 0)),
            (Family(["x"], 0, [[1, 0]], before=SAME, after=SAME), (None, 0)),
            (Family(["x"], 0, [[0, 1]], before=SAME, after=SAME), (1, None)),
            (Family(["x"], 0, [[1, 0, 1]], before=SAME, after=SAME), (None, None)),
            (Family(["x"], 0, [[0, 1]], before=GROWN), (None, 1)),
            (Family(["x"], 5, [[0, 0, 0]], before=GROWN, after=GROWN), None),
            (Family(["x", "y"], -1, [[0, 0, 5], [0, 3, 0]]), (0, 1)),
            (Family(["x", "y"], -1, [[0, 0, 5], [0, 3, 0]], after=SAME), (0, None)),
        ]
        for family, extent in cases:
            self.assertEqual(family.extent(), extent)
            self.assertIs(family.is_finite, extent is None or None not in extent)

    def test_extent_of_chance(self):
        for source in sources(150):
            rows = random_rows(source, 2)
            family = random_family(source, rows)
            far = list(range(-40, 41))
            filled = [place for place in far if any(family(row, place) != (0, 1) for row in rows)]
            if not filled:
                self.assertIsNone(family.extent())
                continue
            least = None if filled[0] < -30 else filled[0]
            greatest = None if filled[-1] > 30 else filled[-1]
            self.assertEqual(family.extent(), (least, greatest))
            self.assertIs(family.is_finite, least is not None and greatest is not None)

    def test_nothing_changes_the_family(self):
        entries = [[random_entry(source) for source in sources(4)]]
        family = Family(["x"], 0, entries, before=GROWN, after=SAME)
        before = (family.rows, family.first, family.entries, family.before, family.after)
        for result in (family + family, -family, 3 * family, family.moved(2), family.turned(), family.only(["x"]),
                       family.scaled((1, 2)), family.applied(GROWN), family.renamed("x", "y"),
                       family.beside(Family.zero(["z"]))):
            self.assertTrue(all_tuples(result.entries))
        family.window(-20, 40)
        self.assertEqual((family.rows, family.first, family.entries, family.before, family.after), before)


if __name__ == "__main__":
    unittest.main()
