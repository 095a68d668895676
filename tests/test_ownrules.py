import unittest

from helpers import (
    equal_book, kept_family, naively_follows, random_book, random_end, random_family, random_rows, random_sum, raised,
    rank, same, shifted_lines, sources,
)
from joinpast.books import Book
from joinpast.courses import course
from joinpast.errors import BreaksOwnRule, NotCourse, UnknownRow
from joinpast.families import Family
from joinpast.keeping import keeps
from joinpast.ownrules import family_with, own_rule
from joinpast.polynomials import normal_polynomial, span
from joinpast.steering import steerable_part
from joinpast.sums import moved_sum, sum_plus, sum_times

SAME = ((0, -1), (1, 1))
COMMON = Book(["a", "b"], [[("a", 1, 1), ("a", 0, -1), ("b", 1, 2), ("b", 0, -2)]])
KEPT = [("a", 0, 1), ("b", 0, 2)]


class OwnRuleTest(unittest.TestCase):
    def test_interface_example(self):
        self.assertEqual([own_rule(COMMON, KEPT), own_rule(COMMON, [("a", 0, 1)])], [SAME, ()])

    def test_known_books(self):
        self.assertEqual(own_rule(COMMON, []), ((0, 1),))
        self.assertEqual(own_rule(COMMON, COMMON.rules[0]), ((0, 1),))
        self.assertEqual(own_rule(COMMON, [("b", 7, 6), ("a", 7, 3)]), SAME)
        self.assertEqual(own_rule(Book.free(["a"]), [("a", 0, 1)]), ())
        self.assertEqual(own_rule(Book.free(["a"]), [("a", 0, 1), ("a", 0, -1)]), ((0, 1),))
        self.assertEqual(own_rule(Book.zero(["a"]), [("a", 3, 4)]), ((0, 1),))
        turning = Book(["x"], [[("x", 0, 2), ("x", 3, -2)]])
        self.assertEqual(own_rule(turning, [("x", 0, 1)]), ((0, -1), (3, 1)))
        self.assertEqual(own_rule(turning, [("x", 0, 1), ("x", 1, 1), ("x", 2, 1)]), SAME)
        self.assertEqual(own_rule(turning, [("x", 4, 1), ("x", 3, -1)]), ((0, 1), (1, 1), (2, 1)))
        halves = Book(["x"], [[("x", 0, -3), ("x", 1, 2)]])
        self.assertEqual(own_rule(halves, [["x", -20, 5]]), ((0, -3), (1, 2)))

    def test_unknown_row(self):
        terms = [("z", 0, 0), ("y", 0, 1), ("x", 0, 1)]
        for call in (lambda: own_rule(COMMON, terms), lambda: family_with(COMMON, terms, Family.zero(["p", "q"]))):
            error = raised(call)
            self.assertIsInstance(error, UnknownRow)
            self.assertEqual(error.name, "x")

    def test_books_of_chance(self):
        kinds = {"free": 0, "one": 0, "more": 0}
        for source in sources(200):
            rows = random_rows(source, 3)
            book = random_book(source, rows)
            terms = random_sum(source, rows)
            part = steerable_part(book).rules
            if part and source.randint(0, 2):
                terms = sum_plus(sum_times([(source.randint(0, 1), source.randint(-2, 2))], source.choice(part)), part[0])
            p = own_rule(book, terms)
            self.assertEqual(p, own_rule(equal_book(source, book), terms))
            self.assertEqual(p, normal_polynomial(p))
            lines = shifted_lines(book.given, -25, 25)
            length = span(p) if p else 6
            moves = [{(shift, row): c for row, shift, c in moved_sum(terms, by)} for by in range(length)]
            self.assertEqual(rank(lines + moves), rank(lines) + length)
            if p:
                self.assertTrue(naively_follows(book.given, sum_times(p, terms), margin=25))
            kinds["free" if not p else "more" if span(p) else "one"] += 1
        self.assertGreater(min(kinds.values()), 20, kinds)


class FamilyWithTest(unittest.TestCase):
    def assert_made(self, book, terms, wanted):
        family = family_with(book, terms, wanted)
        self.assertEqual(family.rows, book.rows)
        self.assertTrue(keeps(book, family))
        self.assertEqual(course(family, terms, name=wanted.rows[0]), wanted)
        return family

    def test_known_books(self):
        five = Family(["q"], 0, [[5]], before=SAME, after=SAME)
        self.assert_made(COMMON, KEPT, five)
        self.assert_made(COMMON, KEPT, Family.zero(["a"]))
        self.assert_made(COMMON, [("a", 4, 3)], Family(["b"], -2, [[1, (2, 3), 0, 4]], after=SAME))
        self.assert_made(COMMON, [], Family.zero(["q"]))
        self.assert_made(COMMON, COMMON.rules[0], Family.zero(["q"]))
        self.assert_made(Book.free(["a", "b"]), [("a", 0, 1), ("b", 2, 3)], Family.pulse(["sum"], "sum", place=30))
        self.assert_made(Book.free(["a"]), [("a", 0, 1), ("a", 1, -2)], five)
        self.assertEqual(self.assert_made(Book.zero(["a"]), [("a", 0, 1)], Family.zero(["q"])), Family.zero(["a"]))

    def test_all_row_names_are_taken(self):
        rows = list("abcdef")
        book = Book(rows, [[(row, 0, 1) for row in rows]])
        self.assert_made(book, [("a", 1, 1), ("f", 0, 1)], Family(["c"], 0, [[1, 2]]))

    def test_the_course_may_break_the_own_rule_far_away(self):
        steps = Family(["q"], -9, [[5] * 4 + [6] * 20], before=SAME, after=SAME)
        error = raised(family_with, COMMON, KEPT, steps)
        self.assertIsInstance(error, BreaksOwnRule)
        self.assertEqual(error.place, -6)
        ends = Family(["q"], 0, [[5, 5]], before=SAME)
        self.assertEqual(raised(family_with, COMMON, KEPT, ends.moved(40)).place, 41)
        self.assertEqual(raised(family_with, COMMON, KEPT, ends.moved(-2)).place, -1)
        both = Family(["q"], -4, [[5] * 8])
        self.assertEqual(raised(family_with, COMMON, KEPT, both).place, 3)
        self.assertEqual(raised(family_with, COMMON, [], Family.pulse(["q"], "q", place=-7)).place, -7)

    def test_errors_in_their_order(self):
        for rows in (["p", "q"], ["a", "b", "c"]):
            error = raised(family_with, COMMON, KEPT, Family.pulse(rows, rows[0]))
            self.assertIsInstance(error, NotCourse)
            self.assertEqual(error.count, len(rows))
        self.assertIsInstance(raised(family_with, COMMON, [("z", 0, 1)], Family.zero(["p", "q"])), UnknownRow)

    def test_books_of_chance(self):
        for source in sources(120):
            rows = random_rows(source, 3)
            book = random_book(source, rows)
            part = steerable_part(book).rules
            terms = source.choice(part) if part and source.randint(0, 1) else random_sum(source, rows)
            wanted = course(kept_family(source, book), terms, name="c")
            if not own_rule(book, terms):
                wanted = random_family(source, ["c"])
            found = self.assert_made(book, terms, wanted)
            self.assertTrue(same(found, family_with(equal_book(source, book), terms, wanted)))
            p = own_rule(book, terms)
            if p:
                end = random_end(source, 2)
                other = Family(["c"], 0, [[1, 3]], before=end, after=end)
                error = raised(family_with, book, terms, other)
                values = other.applied(p)
                order = [0] + [at for far in range(1, 60) for at in (far, -far)]
                broken = [place for place in order if values("c", place) != (0, 1)]
                self.assertEqual(error.place if error else None, broken[0] if broken else None)


if __name__ == "__main__":
    unittest.main()
