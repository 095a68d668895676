import unittest
from math import gcd

from helpers import (
    all_tuples, equal_book, naive_value, naively_follows, number, random_book, random_rows, random_sum, raised, same,
    sources,
)
from joinpast.books import Book
from joinpast.errors import BadName, NoRows, RowTwice, UnknownRow
from joinpast.families import Family
from joinpast.keeping import keeps
from joinpast.seeing import formula, told_rows, unseen, unseen_book
from joinpast.sums import sum_times

PUMP = Book(["level", "pump"], [[("level", 1, 1), ("level", 0, -1), ("pump", 0, -1)]])
CHAIN = Book(["a", "b", "c"], [[("a", 0, 1), ("c", 0, -1)], [("b", 0, 1), ("c", 1, -1)]])


class SeeingTest(unittest.TestCase):
    def assert_answers(self, book, shown, terms):
        found = formula(book, shown, terms)
        family = unseen(book, shown, terms)
        self.assertEqual(found is None, family is not None)
        if family is None:
            self.assertTrue(all_tuples(found))
            divisor, told = found
            self.assertGreaterEqual(divisor, 1)
            self.assertEqual(gcd(divisor, *[c for _, _, c in told]), 1)
            self.assertTrue({row for row, _, _ in told} <= set(shown))
            whole = list(told) + list(sum_times([(0, -divisor)], terms))
            self.assertTrue(naively_follows(book.given, whole, margin=25), (book.given, shown, terms))
        else:
            self.assertEqual(family.rows, book.rows)
            self.assertTrue(keeps(book, family))
            self.assertNotEqual(naive_value(family, terms, 0), 0)
            for row in shown:
                self.assertEqual(family.only([row]), Family.zero([row]))
        return found

    def test_known_books(self):
        self.assertEqual(self.assert_answers(PUMP, ["level"], [("pump", 0, 1)]), (1, (("level", 0, -1), ("level", 1, 1))))
        self.assertIsNone(self.assert_answers(PUMP, ["pump"], [("level", 0, 1)]))
        self.assertEqual(self.assert_answers(PUMP, ["pump"], [("level", 1, 1), ("level", 0, -1)]), (1, (("pump", 0, 1),)))
        self.assertEqual(self.assert_answers(CHAIN, ("b",), [("a", 1, 3), ("c", 4, 6)])[0], 1)
        halves = Book(["a", "b"], [[("a", 0, 4), ("b", 2, 6)]])
        self.assertEqual(self.assert_answers(halves, ["b"], [("a", 0, 1)]), (2, (("b", 2, -3),)))
        self.assertEqual(self.assert_answers(halves, ["b"], [("a", 0, 2), ("b", 2, 3)]), (1, ()))

    def test_no_rows_and_all_rows_shown(self):
        self.assertEqual(self.assert_answers(PUMP, [], PUMP.rules[0]), (1, ()))
        self.assertIsNone(self.assert_answers(PUMP, [], [("pump", 0, 1)]))
        self.assertEqual(self.assert_answers(Book.zero(["a"]), [], [("a", 3, 7)]), (1, ()))
        self.assertEqual(self.assert_answers(PUMP, [], []), (1, ()))
        terms = (("level", 2, 5), ("pump", -1, 3))
        self.assertIsNotNone(self.assert_answers(PUMP, ["pump", "level"], terms))
        self.assertEqual(self.assert_answers(Book.free(["a", "b"]), ["b", "a"], [("b", 0, 4)]), (1, (("b", 0, 4),)))

    def test_told_rows(self):
        self.assertEqual(told_rows(PUMP, ["level"]), ("level", "pump"))
        self.assertEqual(told_rows(PUMP, ["pump"]), ("pump",))
        self.assertEqual(told_rows(PUMP, []), ())
        self.assertEqual(told_rows(CHAIN, ["b"]), ("a", "b", "c"))
        self.assertEqual(told_rows(Book.zero(["a", "b"]), []), ("a", "b"))

    def test_unseen_books(self):
        self.assertEqual(unseen_book(PUMP, ["level"]), Book.zero(["pump"]))
        self.assertEqual(unseen_book(PUMP, ["pump"]).rules, ((("level", 0, 1), ("level", 1, -1)),))
        self.assertEqual(unseen_book(PUMP, []), PUMP)
        self.assertEqual(unseen_book(Book.free(["a", "b"]), ["a"]), Book.free(["b"]))
        found = unseen_book(Book(["a", "b"], [[], [("a", 0, 1), ("b", 3, 7)]]), ["a"])
        self.assertEqual((found.given, found.rules), (((("b", 0, 1),),),) * 2)

    def test_errors_in_their_order(self):
        calls = [
            lambda shown: formula(PUMP, shown, [("z", 0, 1)]), lambda shown: unseen(PUMP, shown, [("z", 0, 1)]),
            lambda shown: told_rows(PUMP, shown), lambda shown: unseen_book(PUMP, shown),
        ]
        for call in calls:
            for shown, kind, name in ((["q", "q", "Q", "P"], BadName, "Q"), (["q", "pump", "pump", "q"], RowTwice, "pump"),
                                      (["q", "level", "p"], UnknownRow, "p"), (["level", "pump", "", ""], BadName, "")):
                error = raised(call, shown)
                self.assertIsInstance(error, kind)
                self.assertEqual(error.name, name)
        for call in calls[:2]:
            error = raised(call, ["level"])
            self.assertIsInstance(error, UnknownRow)
            self.assertEqual(error.name, "z")
        for call in (formula, unseen):
            self.assertEqual(raised(call, PUMP, [], [("z", 0, 1), ("y", 1, 1), ("a", 0, 0)]).name, "y")
            self.assertEqual(raised(call, PUMP, ["pump", "level"], [("z", 0, 1)]).name, "z")
        self.assertIsInstance(raised(unseen_book, PUMP, ["pump", "level"]), NoRows)
        self.assertIsInstance(raised(unseen_book, PUMP, ["pump", "level", "pump"]), RowTwice)

    def test_books_of_chance(self):
        told = 0
        for source in sources(150):
            rows = random_rows(source, 4)
            book = random_book(source, rows)
            shown = source.sample(rows, source.randint(0, len(rows)))
            terms = random_sum(source, rows)
            other = equal_book(source, book)
            told += self.assert_answers(book, shown, terms) is not None
            self.assertEqual(formula(other, shown[::-1], terms), formula(book, shown, terms))
            self.assertTrue(same(unseen(other, shown, terms), unseen(book, shown, terms)))
            expected = tuple(row for row in rows if formula(book, shown, [(row, 0, 1)]) is not None)
            self.assertEqual(told_rows(book, shown), expected)
            hidden = [row for row in rows if row not in shown]
            if hidden:
                rest = unseen_book(book, shown)
                self.assertEqual((rest.rows, rest), (tuple(hidden), unseen_book(other, shown)))
                inner = [term for term in terms if term[0] in hidden]
                self.assertIs(inner in rest, formula(book, shown, inner) is not None)
        self.assertTrue(30 < told < 120, told)

    def test_what_is_unseen_is_a_family_of_its_book(self):
        book = Book(["a", "b", "c"], [[("a", 0, 1), ("b", 1, 1), ("b", 0, -3)]])
        family = unseen(book, ["a"], [("b", 0, 1)])
        self.assertTrue(keeps(unseen_book(book, ["a"]), family.only(["b", "c"])))
        self.assertNotEqual(number(family("b", 0)), 0)


if __name__ == "__main__":
    unittest.main()
