import unittest

from helpers import (
    all_tuples, equal_book, kept_family, random_book, random_rows, raised, rank, same, shifted_lines, sources,
)
from joinpast.books import Book
from joinpast.courses import value
from joinpast.errors import Barred, Broken, NotStricter, RowsDiffer
from joinpast.families import Family
from joinpast.gaps import universal_gap
from joinpast.keeping import first_break, keeps
from joinpast.ownrules import own_rule
from joinpast.switching import Switch, switch, switched

PUMP = Book(["level", "pump"], [[("level", 1, 1), ("level", 0, -1), ("pump", 0, -1)]])
STILL = Book(["x"], [[("x", 1, 1), ("x", 0, -1)]])
FULL = Family(["level", "pump"], 0, [[1], [0]], before=[(0, -1), (1, 1)], after=[(0, -1), (1, 1)])


def past_sums(lines):
    """Return how many independent sums of negative shifts alone come from lines."""
    behind = [{key: line[key] for key in line if key[0] >= 0} for line in lines]
    return rank(lines) - rank(behind)


def does_behind_all(book, wish, gap, margin=14):
    """Tell whether the wish can be switched on behind all pasts, by counting."""
    ours = shifted_lines(book.rules, -margin, gap + margin)
    yours = shifted_lines(wish.rules, gap, gap + margin)
    return past_sums(ours) == past_sums(ours + yours)


def stricter_book(source, book):
    return book & random_book(source, list(book.rows), shift=1)


class SwitchTest(unittest.TestCase):
    def assert_switch(self, book, wish):
        found = switch(book, wish)
        self.assertIsInstance(found, Switch)
        if found.gap is None:
            self.assertTrue(all_tuples(found.bound))
            self.assertIn(found.bound, wish)
            self.assertNotIn(found.bound, book)
            self.assertNotEqual(own_rule(book, found.bound), ())
            for gap in (0, 4):
                self.assertFalse(does_behind_all(book, wish, gap))
            return None
        self.assertIsNone(found.bound)
        self.assertTrue(does_behind_all(book, wish, found.gap))
        if found.gap > 0:
            self.assertFalse(does_behind_all(book, wish, found.gap - 1))
        return found.gap

    def test_known_wishes(self):
        self.assertEqual(self.assert_switch(PUMP, Book.zero(PUMP.rows)), 1)
        self.assertEqual(self.assert_switch(PUMP, PUMP & Book(["level"], [[("level", 0, 1), ("level", 1, -1)]])), 0)
        self.assertEqual(self.assert_switch(Book.free(["x"]), STILL), 0)
        self.assertEqual(self.assert_switch(Book.free(["x"]), Book.zero(["x"])), 0)
        self.assertIsNone(self.assert_switch(STILL, Book.zero(["x"])))
        self.assertEqual(switch(STILL, Book.zero(["x"])).bound, (("x", 0, 1),))
        late = Book(["a", "b"], [[("a", 5, 1), ("b", 0, -1)]])
        self.assertEqual(self.assert_switch(late, Book.zero(["a", "b"])), 5)
        self.assertEqual(self.assert_switch(late, late & Book(["a", "b"], [[("a", 0, 1), ("a", 1, -2)]])), 4)

    def test_a_wish_that_is_the_book_itself(self):
        for book in (PUMP, STILL, Book.free(["a", "b"]), Book.zero(["a"]), PUMP & Book(["q"], [[("q", 0, 1), ("q", 1, 1)]])):
            self.assertEqual(self.assert_switch(book, book), 0)

    def test_zeros_are_switched_on_within_the_universal_gap(self):
        gaps = set()
        for source in sources(80):
            book = random_book(source, random_rows(source, 4))
            gap = switch(book, Book.zero(book.rows)).gap
            self.assertEqual(gap, universal_gap(book))
            gaps.add(gap)
        self.assertTrue({None, 0, 1} <= gaps, gaps)

    def test_errors_in_their_order(self):
        calls = [switch, lambda book, wish: switched(book, wish, Family.zero(["z"]), gap=0)]
        for call in calls:
            error = raised(call, STILL, PUMP)
            self.assertIsInstance(error, RowsDiffer)
            self.assertEqual((error.one, error.two), (("x",), ("level", "pump")))
            book = Book(["a", "b", "c"], [[("a", 0, 1)], [("b", 0, 1), ("b", 1, -1)], [("c", 0, 1)]])
            error = raised(call, book, Book(["a", "b", "c"], [[("a", 0, 2)], [("b", 0, 1), ("b", 1, -2)]]))
            self.assertIsInstance(error, NotStricter)
            self.assertEqual(error.terms, (("b", 0, 1), ("b", 1, -1)))
            self.assertIsInstance(raised(call, STILL, Book.free(["x"])), NotStricter)

    def test_books_of_chance(self):
        gaps = {}
        for source in sources(150):
            book = random_book(source, random_rows(source, 3))
            wish = stricter_book(source, book)
            gap = self.assert_switch(book, wish)
            gaps[gap] = gaps.get(gap, 0) + 1
            one, two = switch(book, wish), switch(equal_book(source, book), equal_book(source, wish))
            self.assertEqual((one.gap, one.bound), (two.gap, two.bound))
        self.assertTrue({None, 0, 1, 2, 3} <= set(gaps), gaps)


class SwitchedTest(unittest.TestCase):
    def assert_switched(self, book, wish, past, place, gap):
        """Check the pair, or the bar, which shows that there is no such pair."""
        error = raised(switched, book, wish, past, place=place, gap=gap)
        if error is not None:
            self.assertIsInstance(error, Barred)
            self.assertTrue(all_tuples(error.terms))
            self.assertIn(error.terms, book)
            self.assertTrue(all(shift < 0 or shift >= gap for _, shift, _ in error.terms))
            self.assertIn([term for term in error.terms if term[1] >= gap], wish)
            before = [term for term in error.terms if term[1] < 0]
            self.assertNotEqual(value(past, before, place), (0, 1))
            return False
        joint, future = switched(book, wish, past, place=place, gap=gap)
        self.assertTrue(keeps(book, joint))
        self.assertTrue(keeps(wish, future))
        self.assertEqual(joint.window(place - 40, 40), past.window(place - 40, 40))
        self.assertEqual(joint.window(place + gap, 40), future.window(place + gap, 40))
        return True

    def test_known_pasts(self):
        zero = Book.zero(PUMP.rows)
        self.assertFalse(self.assert_switched(PUMP, zero, FULL, 0, 0))
        self.assertTrue(self.assert_switched(PUMP, zero, FULL, 0, 1))
        joint, future = switched(PUMP, zero, FULL, gap=1)
        self.assertEqual(joint.window(-1, 3), (((1, 1), (1, 1), (0, 1)), ((0, 1), (-1, 1), (0, 1))))
        self.assertEqual(future, Family.zero(PUMP.rows))
        self.assertIsInstance(switched(PUMP, zero, FULL, place=3, gap=2), tuple)

    def test_a_wish_that_can_be_switched_on_behind_some_pasts_only(self):
        ones = Family(["x"], 0, [[1]], before=[(0, -1), (1, 1)], after=[(0, -1), (1, 1)])
        for gap in (0, 1, 30):
            self.assertFalse(self.assert_switched(STILL, Book.zero(["x"]), ones, 0, gap))
            self.assertTrue(self.assert_switched(STILL, Book.zero(["x"]), Family.zero(["x"]), 0, gap))
        parted = Family(PUMP.rows, 0, [[0, 1], [1, 0]], after=[(0, -1), (1, 1)])
        for place in (-3, 0, 1, 2, 5):
            done = self.assert_switched(PUMP, Book.zero(PUMP.rows), parted, place, 0)
            self.assertEqual(done, place <= 0)

    def test_a_gap_that_does_behind_all_pasts(self):
        for source in sources(60):
            book = random_book(source, random_rows(source, 3))
            wish = stricter_book(source, book)
            gap = switch(book, wish).gap
            if gap is not None:
                self.assertTrue(self.assert_switched(book, wish, kept_family(source, book), source.randint(-9, 9), gap))

    def test_errors_in_their_order(self):
        wish = Book.zero(PUMP.rows)
        error = raised(switched, PUMP, wish, Family.pulse(["level"], "level"), gap=0)
        self.assertIsInstance(error, RowsDiffer)
        self.assertEqual((error.one, error.two), (("level", "pump"), ("level",)))
        broken = Family.pulse(PUMP.rows, "level", place=4)
        error = raised(switched, PUMP, wish, broken, gap=0)
        self.assertIsInstance(error, Broken)
        self.assertEqual((error.place, error.index), first_break(PUMP, broken))
        self.assertIsInstance(raised(switched, PUMP, wish, FULL, gap=0), Barred)

    def test_pasts_of_chance(self):
        count = 0
        for source in sources(120):
            book = random_book(source, random_rows(source, 3))
            wish = stricter_book(source, book)
            past = kept_family(source, book)
            place, gap = source.choice([0, 0, -3, 2]), source.choice([0, 0, 1, 2])
            done = self.assert_switched(book, wish, past, place, gap)
            count += done
            others = (equal_book(source, book), equal_book(source, wish))
            if done:
                one = switched(book, wish, past, place=place, gap=gap)
                self.assertTrue(same(switched(*others, past, place=place, gap=gap), one))
            else:
                one = raised(switched, book, wish, past, place=place, gap=gap)
                self.assertEqual(raised(switched, *others, past, place=place, gap=gap).terms, one.terms)
        self.assertTrue(20 < count < 110, count)


if __name__ == "__main__":
    unittest.main()
