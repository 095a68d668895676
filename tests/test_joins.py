import unittest

from helpers import (
    all_tuples, equal_book, kept_family, naive_joint, number, random_book, random_rows, raised, same,
    sources,
)
from joinpast.books import Book
from joinpast.errors import Broken, RowsDiffer, UnknownRow
from joinpast.families import Family
from joinpast.joins import is_bar, join
from joinpast.keeping import first_break, keeps

ROWS = ["level", "pump"]
PUMP = Book(ROWS, [[("level", 1, 1), ("level", 0, -1), ("pump", 0, -1)]])
SAME = [(0, -1), (1, 1)]
FULL = Family(ROWS, 0, [[1], [0]], before=SAME, after=SAME)
EMPTY = Family.zero(ROWS)


class JoinsTest(unittest.TestCase):
    def assert_joined(self, book, past, future, place, gap):
        found = join(book, past, future, place=place, gap=gap)
        expected = naive_joint(book.given, past, future, place, gap)
        if expected is None:
            self.assertIsNone(found.family)
            self.assert_bar(book, past, future, found.bar, place, gap)
            return None
        self.assertIsNone(found.bar)
        self.assertTrue(keeps(book, found.family))
        self.assertEqual(found.family.window(place - 25, 25), past.window(place - 25, 25))
        self.assertEqual(found.family.window(place + gap, 25), future.window(place + gap, 25))
        self.assertGreaterEqual(((found.family - past).extent() or (place, 0))[0], place)
        return found.family

    def assert_bar(self, book, past, future, terms, place, gap):
        self.assertTrue(all_tuples(terms))
        self.assertIn(terms, book)
        self.assertTrue(all(shift < 0 or shift >= gap for _, shift, _ in terms))
        total = sum([c * number((past if shift < 0 else future)(row, place + shift)) for row, shift, c in terms])
        self.assertNotEqual(total, 0)
        self.assertIs(is_bar(book, past, future, terms, place=place, gap=gap), True)

    def test_filling_a_tank(self):
        self.assertIsNone(self.assert_joined(PUMP, EMPTY, FULL, 0, 0))
        family = self.assert_joined(PUMP, EMPTY, FULL, 0, 1)
        self.assertEqual(family.window(-1, 3), (((0, 1), (0, 1), (1, 1)), ((0, 1), (1, 1), (0, 1))))
        self.assertIsNotNone(self.assert_joined(PUMP, EMPTY, FULL, -30, 30))
        self.assertIsNotNone(self.assert_joined(PUMP, FULL, FULL, 30, 0))

    def test_the_default_place_and_gap_are_0(self):
        found = join(PUMP, EMPTY, FULL)
        self.assertIsNone(found.family)
        self.assert_bar(PUMP, EMPTY, FULL, found.bar, 0, 0)
        self.assertIs(is_bar(PUMP, EMPTY, FULL, found.bar), True)
        self.assertEqual(join(PUMP, FULL, FULL).family, FULL)

    def test_books_without_rules_and_of_zeros(self):
        free, zero = Book.free(["a"]), Book.zero(["a"])
        one, two = Family.pulse(["a"], "a", place=-1), Family(["a"], 0, [[3]], before=SAME, after=SAME)
        family = self.assert_joined(free, one, two, 0, 0)
        self.assertEqual(family.window(-2, 4), (((0, 1), (1, 1), (3, 1), (3, 1)),))
        self.assertIsNotNone(self.assert_joined(free, one, two, 4, 3))
        self.assertEqual(join(zero, Family.zero(["a"]), Family.zero(["a"]), gap=5).family, Family.zero(["a"]))

    def test_what_nobody_can_change_bars_all_gaps(self):
        steady = Book(["x"], [[("x", 0, 1), ("x", 1, -1)]])
        one = Family(["x"], 0, [[1]], before=SAME, after=SAME)
        for gap in (0, 1, 7, 30):
            self.assertIsNone(self.assert_joined(steady, one, one + one, 3, gap))
            self.assertEqual(self.assert_joined(steady, one, one, 3, gap), one)

    def test_families_that_agree_on_one_side_only(self):
        rule = [("a", 0, 1), ("a", 2, -1), ("b", 0, 1)]
        book = Book(["a", "b"], [rule])
        past = Family(["a", "b"], 0, [[1], [0]], before=SAME, after=SAME)
        future = Family(["a", "b"], 4, [[5, 6], [0, 0]], before=[(0, 1)], after=[(0, -1), (2, 1)])
        self.assertEqual(first_break(book, future), (2, 0))
        future = future + Family(["a", "b"], 2, [[0, 0], [5, 6]])
        for gap in range(6):
            self.assert_joined(book, past, future, 0, gap)
            self.assert_joined(book, past, future, 2, gap)
            self.assert_joined(book, future, past, 5, gap)

    def test_is_bar(self):
        bar = join(PUMP, EMPTY, FULL).bar
        self.assertIs(is_bar(PUMP, EMPTY, FULL, bar, gap=1), False)
        self.assertIs(is_bar(PUMP, EMPTY, FULL, [], gap=1), False)
        self.assertIs(is_bar(PUMP, FULL, FULL, bar), False)
        self.assertIs(is_bar(PUMP, EMPTY, FULL, [("level", 0, 1)]), False)
        rule = [("level", 0, 1), ("level", -1, -1), ("pump", -1, -1)]
        self.assertIs(is_bar(PUMP, EMPTY, FULL, rule), True)
        self.assertIs(is_bar(PUMP, EMPTY, FULL, rule, place=5), True)
        self.assertIs(is_bar(PUMP, FULL, EMPTY, rule, place=-5), True)
        self.assertIs(is_bar(PUMP, EMPTY, FULL, rule + [("pump", 0, 1)], place=5), False)
        self.assertIs(is_bar(PUMP, EMPTY, FULL, rule + [("level", 3, 1), ("level", 3, -1)]), True)
        self.assertIs(is_bar(PUMP, EMPTY, FULL, rule + [("z", 3, 1), ("z", 3, -1)]), True)
        far = [("level", 1, 1), ("level", 0, -1), ("pump", 0, -1)]
        self.assertIs(is_bar(PUMP, EMPTY, FULL, far), False)
        self.assertIs(is_bar(PUMP, EMPTY, FULL, rule + far), True)
        self.assertIs(is_bar(PUMP, EMPTY, FULL, rule + far, gap=1), False)
        wide = [("level", 3, 1), ("level", -1, -1)] + [("pump", at, -1) for at in range(-1, 3)]
        self.assertIs(is_bar(PUMP, EMPTY, FULL, wide), True)
        self.assertIs(is_bar(PUMP, EMPTY, FULL, wide, gap=3), False)

    def test_errors_in_their_order(self):
        other = Family.zero(["x"])
        broken, worse = Family.pulse(ROWS, "pump", place=2), Family.pulse(ROWS, "level", place=-4)
        book = Book(ROWS, [[], PUMP.rules[0]])
        for past, future, pair in ((other, broken, (("level", "pump"), ("x",))), (broken, other, (("level", "pump"), ("x",)))):
            for call in (lambda: join(book, past, future), lambda: is_bar(book, past, future, [("z", 0, 1)])):
                error = raised(call)
                self.assertIsInstance(error, RowsDiffer)
                self.assertEqual((error.one, error.two), pair)
        for past, future, pair in ((broken, worse, (2, 1)), (EMPTY, worse, (-4, 1)), (worse, FULL, (-4, 1))):
            error = raised(join, book, past, future, place=9)
            self.assertIsInstance(error, Broken)
            self.assertEqual((error.place, error.index), pair)
        error = raised(is_bar, book, EMPTY, FULL, [("z", 0, 1), ("y", 0, 0), ("x", 0, 1), ("x", 1, 1)])
        self.assertIsInstance(error, UnknownRow)
        self.assertEqual(error.name, "x")

    def test_the_index_of_a_break_counts_the_given_rules(self):
        book = Book(["a", "b"], [[("b", 0, 1)], [("a", 0, 1)]])
        error = raised(join, book, Family.pulse(["a", "b"], "a", place=-1), Family.zero(["a", "b"]))
        self.assertEqual((error.place, error.index), (-1, 1))

    def test_joints_of_chance(self):
        barred = 0
        for source in sources(150):
            rows = random_rows(source, 3)
            book = random_book(source, rows)
            past, future = kept_family(source, book), kept_family(source, book)
            place = source.randint(-4, 4)
            other = equal_book(source, book)
            for gap in (0, 1, 2, 4):
                family = self.assert_joined(book, past, future, place, gap)
                barred += family is None
                again = join(other, past, future, place=place, gap=gap)
                self.assertTrue(same(family, again.family))
                self.assertEqual(again.bar, join(book, past, future, place=place, gap=gap).bar)
        self.assertTrue(50 < barred < 450, barred)

    def test_only_the_families_count_not_their_stretches(self):
        source = next(iter(sources(1)))
        book = random_book(source, ["a", "b"])
        past, future = kept_family(source, book), kept_family(source, book)
        wide = past + future - future
        one, two = join(book, past, future, gap=2), join(book, wide, future, gap=2)
        self.assertTrue(same(one.family, two.family) and one.bar == two.bar)

    def test_a_joint_far_from_the_stretches(self):
        self.assertIsNotNone(self.assert_joined(PUMP, EMPTY, FULL, 30, 30))
        far = FULL.moved(60).moved(60)
        self.assertIsNotNone(self.assert_joined(PUMP, far, EMPTY, -30, 2))

    def test_many_rows_and_long_rules(self):
        rows = list("abcdef")
        rules = [[(row, 0, 2), (row, 5, -3), (after, 2, 1)] for row, after in zip(rows, rows[1:])]
        book = Book(rows, rules)
        source = next(iter(sources(1)))
        past, future = kept_family(source, book), kept_family(source, book)
        for gap in (0, 12, 30):
            found = join(book, past, future, gap=gap)
            if found.family is None:
                self.assertTrue(is_bar(book, past, future, found.bar, gap=gap))
            else:
                self.assertTrue(keeps(book, found.family))
        self.assertIsNotNone(found.family)


if __name__ == "__main__":
    unittest.main()
