import unittest

from helpers import all_tuples, followers, random_rows, random_rules, rank, sources
from joinpast.books import Book
from joinpast.shortest import reaches, shortest
from joinpast.sums import normal_rule, reach

PUMP = [("level", 1, 1), ("level", 0, -1), ("pump", 0, -1)]


def edge_rank(rules, at_end):
    """Return the rank of what the rules have at one end."""
    return rank([
        {row: c for row, shift, c in rule if shift == (reach(rule) if at_end else 0)} for rule in rules
    ])


class ShortestTest(unittest.TestCase):
    def assert_shortest(self, book):
        found = shortest(book)
        self.assertTrue(all_tuples(found))
        self.assertEqual(len(found), len(book))
        self.assertEqual(list(found), [normal_rule(rule) for rule in found])
        self.assertEqual(Book(book.rows, found), book)
        lengths = [reach(rule) for rule in found]
        self.assertEqual(lengths, sorted(lengths))
        self.assertEqual(reaches(book), tuple(lengths))
        # No sum of moved rules is shorter than its rules if their ends are independent.
        self.assertEqual(edge_rank(found, True), len(book))
        self.assertEqual(edge_rank(found, False), len(book))

    def test_edges(self):
        self.assertEqual((shortest(Book.free(["a", "b"])), reaches(Book.free(["a"]))), ((), ()))
        self.assertEqual(shortest(Book.zero(["a", "b"])), ((("a", 0, 1),), (("b", 0, 1),)))
        self.assertEqual(reaches(Book.zero(["a", "b"])), (0, 0))
        book = Book(["level", "pump"], [PUMP, PUMP, []])
        self.assertEqual(shortest(book), book.rules)
        self.assertEqual(reaches(book), (1,))

    def test_shorter_than_the_least_form(self):
        book = Book(["a", "b"], [[("a", 0, 1), ("b", 3, 1)], [("b", 0, 1), ("b", 5, -1)]])
        self.assertEqual([reach(rule) for rule in book.rules], [3, 5])
        self.assertEqual(reaches(book), (2, 3))
        self.assertEqual(shortest(book)[0], (("a", 2, 1), ("b", 0, 1)))
        self.assert_shortest(book)

    def test_both_ends_count(self):
        begin = Book(["a", "b"], [[("a", 0, 1), ("b", 0, 1), ("a", 4, 1)], [("a", 0, 1), ("b", 0, 1), ("b", 4, 1)]])
        self.assertEqual(reaches(begin), (0, 4))
        end = Book(["a", "b"], [[("a", 4, 1), ("b", 4, 1), ("a", 0, 1)], [("a", 4, 1), ("b", 4, 1), ("b", 0, 1)]])
        self.assertEqual(reaches(end), (0, 4))
        late = Book(["a", "b"], [[("a", 0, 1), ("b", 0, 1), ("a", 2, 1)], [("a", 0, 1), ("b", 0, 1), ("b", 3, 1)]])
        self.assertEqual(reaches(late), (1, 2))
        for book in (begin, end, late):
            self.assert_shortest(book)

    def test_books_of_chance(self):
        for source in sources(250):
            rows = random_rows(source, 4)
            rules = random_rules(source, rows, most=4)
            book = Book(rows, rules)
            self.assert_shortest(book)
            for length in (1, 2, 4, 6):
                expected = sum(max(0, length - each) for each in reaches(book))
                self.assertEqual(followers(rules, length), expected, rules)

    def test_equal_books_have_the_same_shortest_rules(self):
        for source in sources(60):
            rows = random_rows(source, 3)
            rules = random_rules(source, rows)
            more = rules + [[(row, shift + 1, 2 * c) for row, shift, c in rule] for rule in rules]
            self.assertEqual(shortest(Book(rows, rules)), shortest(Book(rows[::-1], more[::-1])))

    def test_long_rules_in_many_rows_stay_manageable(self):
        rows = list("abcde")
        rules = [
            [(row, (7 * at + 3 * by) % 9, (5 * at * at + 3 * by + 1) % 11 - 5) for by, row in enumerate(rows * 2)]
            for at in range(4)
        ]
        book = Book(rows, rules)
        self.assert_shortest(book)
        self.assertLess(max(abs(c) for rule in shortest(book) for _, _, c in rule), 10 ** 60)


if __name__ == "__main__":
    unittest.main()
