import unittest
from itertools import combinations

from helpers import (
    all_tuples, equal_book, naive_value, naively_follows, random_book, random_rows, random_sum, raised, same, sources,
)
from joinpast.books import Book
from joinpast.despites import Despite, despite
from joinpast.errors import BadName, NoRows, RowTwice, UnknownRow
from joinpast.keeping import keeps
from joinpast.seeing import formula
from joinpast.sums import sum_times

SAME = Book(["a", "b", "c"], [[("a", 0, 1), ("b", 0, -1)], [("b", 0, 1), ("c", 0, -1)]])
PUMP = Book(["level", "pump"], [[("level", 1, 1), ("level", 0, -1), ("pump", 0, -1)]])


class DespitesTest(unittest.TestCase):
    def assert_despite(self, book, read, terms, liars):
        found = despite(book, read, terms, liars=liars)
        self.assertIsInstance(found, Despite)
        chosen = tuple(sorted(read))
        sets = list(combinations(chosen, min(2 * liars, len(chosen))))
        rests = {left_out: [row for row in chosen if row not in left_out] for left_out in sets}
        sure = all(formula(book, rests[left_out], terms) is not None for left_out in sets)
        self.assertIs(found.sure, sure)
        self.assertTrue(all_tuples(found.formulas))
        if sure:
            self.assertEqual([left_out for left_out, _ in found.formulas], sets)
            for left_out, (divisor, told) in found.formulas:
                self.assertTrue({row for row, _, _ in told} <= set(rests[left_out]))
                whole = list(told) + list(sum_times([(0, -divisor)], terms))
                self.assertTrue(naively_follows(book.rules, whole, margin=25))
            self.assertEqual((found.readings, found.one, found.two), (None, None, None))
            return True
        self.assertEqual(found.formulas, ())
        self.assertEqual(found.readings.rows, chosen)
        for family in (found.one, found.two):
            self.assertTrue(keeps(book, family))
            lying = [row for row in chosen if family.only([row]) != found.readings.only([row])]
            self.assertLessEqual(len(lying), liars)
        self.assertNotEqual(naive_value(found.one, terms, 0), naive_value(found.two, terms, 0))
        return False

    def test_three_equal_rows(self):
        for terms in ([("a", 0, 1)], [("b", 3, 2), ("c", -1, 1)]):
            self.assertTrue(self.assert_despite(SAME, ["c", "a", "b"], terms, 1))
            self.assertTrue(self.assert_despite(SAME, ["c", "a"], terms, 0))
            self.assertFalse(self.assert_despite(SAME, ["c", "a"], terms, 1))
            self.assertFalse(self.assert_despite(SAME, ["a", "b", "c"], terms, 2))
        found = despite(SAME, ["b", "c", "a"], [("a", 0, 1)], liars=1)
        sets = (("a", "b"), ("a", "c"), ("b", "c"))
        self.assertEqual(found.formulas, tuple(zip(sets, [(1, ((row, 0, 1),)) for row in "cba"])))

    def test_no_liars(self):
        self.assertTrue(self.assert_despite(PUMP, ["level"], [("pump", 0, 1)], 0))
        self.assertEqual(despite(PUMP, ["level"], [("level", 2, 3)], liars=0).formulas, (((), (1, (("level", 2, 3),))),))
        self.assertFalse(self.assert_despite(PUMP, ["pump"], [("level", 0, 1)], 0))

    def test_more_liars_than_half_of_the_read_rows(self):
        for liars in (1, 2, 3, 4):
            self.assertFalse(self.assert_despite(PUMP, ["pump", "level"], [("pump", 0, 1)], liars))
            self.assertTrue(self.assert_despite(PUMP, ["pump", "level"], PUMP.rules[0], liars))
            found = despite(PUMP, ["pump", "level"], [], liars=liars)
            self.assertEqual(found.formulas, ((("level", "pump"), (1, ())),))
        self.assertFalse(self.assert_despite(PUMP, ["pump"], [("level", 0, 1)], 1))
        self.assertFalse(self.assert_despite(Book.free(["a"]), ["a"], [("a", 0, 1)], 4))

    def test_errors_in_their_order(self):
        self.assertIsInstance(raised(despite, PUMP, [], [("z", 0, 1)], liars=1), NoRows)
        for read, kind, name in ((["q", "q", "Q"], BadName, "Q"), (["q", "pump", "pump"], RowTwice, "pump"),
                                 (["q", "level", "p"], UnknownRow, "p"), (["level"], UnknownRow, "y")):
            error = raised(despite, PUMP, read, [("z", 0, 1), ("y", 0, 1)], liars=0)
            self.assertIsInstance(error, kind)
            self.assertEqual(error.name, name)

    def test_books_of_chance(self):
        count = 0
        for source in sources(200):
            rows = random_rows(source, 5)
            book = random_book(source, rows, shift=1)
            read = source.sample(rows, source.randint(1, len(rows)))
            terms = random_sum(source, rows, terms=2)
            liars = source.choice([0, 1, 1, 2])
            count += self.assert_despite(book, read, terms, liars)
            one = despite(book, read, terms, liars=liars)
            two = despite(equal_book(source, book), read[::-1], terms, liars=liars)
            for field in ("formulas", "readings", "one", "two"):
                self.assertTrue(same(getattr(one, field), getattr(two, field)))
        self.assertTrue(40 < count < 160, count)


if __name__ == "__main__":
    unittest.main()
