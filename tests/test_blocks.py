import unittest

from helpers import equal_book, followers, kept_family, random_book, random_family, random_rows, raised, sources
from joinpast.blocks import blocked, blocked_book, unblocked
from joinpast.books import Book
from joinpast.errors import BadName, NotBlocked
from joinpast.families import Family
from joinpast.keeping import keeps

SAME = [(0, -1), (1, 1)]
DOUBLING = Book(["a"], [[("a", 1, 1), ("a", 0, -2)]])


class BlocksTest(unittest.TestCase):
    def assert_blocked(self, family, count):
        found = blocked(family, count)
        names = [row + "x" + str(at) for row in family.rows for at in range(count)]
        self.assertEqual(found.rows, tuple(sorted(names)))
        for row in family.rows:
            for at in range(count):
                for place in range(-9, 9):
                    entry = found(row + "x" + str(at), place)
                    self.assertEqual(entry, family(row, count * place + at))
        self.assertEqual(unblocked(found, count), family)
        return found

    def test_known_families(self):
        family = Family(["a"], -1, [[1, 2, 3, 4, 5]])
        found = self.assert_blocked(family, 2)
        self.assertEqual(found.window(-2, 5), (
            ((0, 1), (0, 1), (2, 1), (4, 1), (0, 1)), ((0, 1), (1, 1), (3, 1), (5, 1), (0, 1)),
        ))
        self.assertEqual(found.extent(), (-1, 1))
        for count in range(1, 7):
            self.assert_blocked(family.moved(20), count)
            self.assert_blocked(Family.zero(["a", "b"]), count)
            self.assert_blocked(Family(["a"], 5, [[1, 1]], before=[(0, 1), (2, 1)], after=[(0, -1), (1, -1), (2, 1)]), count)
            self.assert_blocked(Family(["a"], -7, [[3]], before=[(0, -3), (1, 2)], after=SAME), count)

    def test_a_row_that_is_called_like_a_block_row(self):
        self.assert_blocked(Family(["a", "ax0", "axx0"], 0, [[1, 2, 3], [4, 5, 6], [7, 8, 9]]), 2)

    def test_families_of_chance(self):
        for source in sources(120):
            family = random_family(source, random_rows(source, 3))
            self.assert_blocked(family, source.randint(1, 6))

    def test_long_names(self):
        family = Family.pulse(["abcdefgh", "b"], "b")
        self.assert_blocked(family, 6)
        longer = Family.zero(["abcdefghi", "abcdefghij", "b"])
        book = Book.free(longer.rows)
        for call, argument in ((blocked, longer), (blocked_book, book)):
            error = raised(call, argument, 3)
            self.assertIsInstance(error, BadName)
            self.assertEqual(error.name, "abcdefghix0")

    def test_not_blocked(self):
        for rows, count in ((["ax0", "bx1"], 2), (["x0"], 1), (["ax0"], 2), (["ax0", "ax1", "ax2"], 2), (["a"], 1),
                            (["ax1"], 1), (["ax0", "ax1", "bx0"], 2), (["a0", "a1"], 2), (["ax0", "ay1"], 2),
                            (["ax0", "ax2"], 2), (["ax0", "ax1", "c"], 2), (["ab0", "ab1"], 2), (["ax6"], 6)):
            error = raised(unblocked, Family.zero(rows), count)
            self.assertIsInstance(error, NotBlocked, rows)
            self.assertEqual(error.count, count)

    def test_unblocked(self):
        family = Family(["ax1", "ax0"], 1, [[1, 2], [3, 4]], before=SAME, after=SAME)
        found = unblocked(family, 2)
        self.assertEqual(found.window(0, 8), (tuple((c, 1) for c in (3, 1, 3, 1, 4, 2, 4, 2)),))
        self.assertEqual(unblocked(Family.pulse(["ax0x0"], "ax0x0", place=9), 1), Family.pulse(["ax0"], "ax0", place=9))

    def test_blocked_books(self):
        self.assertEqual(blocked_book(DOUBLING, 2).rules, (
            (("ax0", 0, 2), ("ax1", 0, -1)), (("ax1", 0, 4), ("ax1", 1, -1)),
        ))
        self.assertEqual(blocked_book(DOUBLING, 1).rules, ((("ax0", 0, 2), ("ax0", 1, -1)),))
        self.assertEqual(blocked_book(Book.free(["a"]), 3), Book.free(["ax0", "ax1", "ax2"]))
        self.assertEqual(blocked_book(Book.zero(["a"]), 3), Book.zero(["ax0", "ax1", "ax2"]))
        found = blocked_book(Book(["a"], [[], DOUBLING.rules[0]]), 2)
        self.assertEqual(found.given, found.rules)

    def test_books_of_chance(self):
        for source in sources(100):
            rows = random_rows(source, 2)
            book = random_book(source, rows)
            count = source.randint(1, 4)
            found = blocked_book(book, count)
            self.assertEqual(found, blocked_book(equal_book(source, book), count))
            self.assertEqual(len(found), count * len(book))
            self.assertTrue(keeps(found, blocked(kept_family(source, book), count)))
            self.assertTrue(keeps(book, unblocked(kept_family(source, found), count)))
            for length in (1, 2):
                self.assertEqual(followers(found.rules, length), followers(book.given, count * length, margin=25))


if __name__ == "__main__":
    unittest.main()
