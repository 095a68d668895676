import unittest

from helpers import (
    all_tuples, equal_book, merged_sum, naively_follows, random_book, random_rows, random_sum, raised, rank,
    shifted_lines, sources,
)
from joinpast.books import Book
from joinpast.errors import BadName, RowTwice, UnknownRow
from joinpast.looking import look
from joinpast.sums import sum_times

PUMP = Book(["level", "pump"], [[("level", 1, 1), ("level", 0, -1), ("pump", 0, -1)]])


def can_tell(book, shown, terms, low, high):
    """Tell whether the places `low` to `high` of the shown rows tell the sum."""
    lines = shifted_lines(book.rules, -20, 20)
    wanted = {(shift, row): c for (row, shift), c in merged_sum(terms).items()}
    kept = [
        {key: line[key] for key in line if key[1] not in shown or not low <= key[0] <= high}
        for line in lines + [wanted]
    ]
    return rank(kept) == rank(kept[:-1])


class LookingTest(unittest.TestCase):
    def assert_look(self, book, shown, terms, ahead):
        found = look(book, shown, terms, ahead=ahead)
        if found is None:
            self.assertFalse(can_tell(book, shown, terms, -14, ahead))
            return None
        self.assertTrue(all_tuples(found))
        count, (divisor, told) = found
        self.assertGreaterEqual(divisor, 1)
        self.assertTrue({row for row, _, _ in told} <= set(shown))
        self.assertTrue(all(ahead - count < shift <= ahead for _, shift, _ in told))
        whole = list(told) + list(sum_times([(0, -divisor)], terms))
        self.assertTrue(naively_follows(book.rules, whole, margin=25))
        if count:
            self.assertFalse(can_tell(book, shown, terms, ahead - count + 2, ahead))
        else:
            self.assertEqual(told, ())
        return count

    def test_interface_example(self):
        found = [look(PUMP, ["level"], [("pump", 0, 1)], ahead=1), look(PUMP, ["level"], [("pump", 0, 1)], ahead=0)]
        self.assertEqual(found, [(2, (1, (("level", 0, -1), ("level", 1, 1)))), None])

    def test_before_and_behind(self):
        self.assertEqual(self.assert_look(PUMP, ["level"], [("pump", 0, 1)], 5), 6)
        self.assertEqual(self.assert_look(PUMP, ["level"], [("pump", -4, 1)], -3), 2)
        self.assertIsNone(self.assert_look(PUMP, ["level"], [("pump", -3, 1)], -3))
        self.assertEqual(self.assert_look(PUMP, ["level", "pump"], [("level", 3, 1)], 2), 1)
        self.assertEqual(self.assert_look(PUMP, ["level", "pump"], [("level", 3, 1)], 0), None)
        self.assertEqual(self.assert_look(PUMP, ["level", "pump"], [("level", -3, 1)], 0), 4)
        self.assertEqual(self.assert_look(PUMP, ["level", "pump"], [("level", -3, 1), ("level", -2, -1)], 0), 4)
        self.assertIsNone(self.assert_look(PUMP, ["pump"], [("level", 0, 1)], 10))

    def test_what_goes_by_itself_is_seen_from_everywhere(self):
        grown = Book(["x"], [[("x", 0, 1), ("x", 1, 1), ("x", 2, -1)]])
        for shift in (-9, 0, 1, 9):
            for ahead in (-10, -1, 0, 10):
                self.assertEqual(self.assert_look(grown, ["x"], [("x", shift, 1)], ahead), 2 - (ahead == shift))
        self.assertEqual(look(grown, ["x"], [("x", 4, 1)], ahead=1), (2, (1, (("x", 0, 2), ("x", 1, 3)))))
        doubling = Book(["x"], [[("x", 0, 2), ("x", 1, -1)]])
        self.assertEqual(look(doubling, ["x"], [("x", 3, 1)], ahead=0), (1, (1, (("x", 0, 8),))))
        self.assertEqual(look(doubling, ["x"], [("x", -3, 1)], ahead=0), (1, (8, (("x", 0, 1),))))

    def test_the_zero_sum_and_what_follows(self):
        for terms in ([], [("pump", 3, 1), ("pump", 3, -1)], PUMP.rules[0], sum_times([(-9, 2)], PUMP.rules[0])):
            for shown in ([], ["level"], ["pump"], ["level", "pump"]):
                for ahead in (-10, 0, 10):
                    self.assertEqual(look(PUMP, shown, terms, ahead=ahead), (0, (1, ())))
        self.assertEqual(look(Book.zero(["a"]), [], [("a", 5, 3)], ahead=0), (0, (1, ())))
        self.assertIsNone(look(Book.free(["a"]), [], [("a", 5, 3)], ahead=9))
        self.assertEqual(look(Book.free(["a"]), ["a"], [("a", 5, 3), ("a", 7, 3)], ahead=9)[0], 5)

    def test_errors_in_their_order(self):
        for shown, kind, name in ((["q", "q", "Q"], BadName, "Q"), (["q", "pump", "pump"], RowTwice, "pump"),
                                  (["q", "level", "p"], UnknownRow, "p"), (["level"], UnknownRow, "y")):
            error = raised(look, PUMP, shown, [("z", 0, 1), ("y", 0, 1)], ahead=0)
            self.assertIsInstance(error, kind)
            self.assertEqual(error.name, name)

    def test_books_of_chance(self):
        kinds = {}
        for source in sources(150):
            rows = random_rows(source, 3)
            book = random_book(source, rows)
            shown = source.sample(rows, source.randint(0, len(rows)))
            terms = random_sum(source, rows)
            for ahead in (source.randint(-3, 0), source.randint(1, 4)):
                count = self.assert_look(book, shown, terms, ahead)
                kinds[count] = kinds.get(count, 0) + 1
                again = look(equal_book(source, book), shown[::-1], terms, ahead=ahead)
                self.assertEqual(again, look(book, shown, terms, ahead=ahead))
        self.assertGreater(len(kinds), 5)


if __name__ == "__main__":
    unittest.main()
