import unittest

from helpers import (
    all_tuples, followers, naively_follows, raised, random_rows, random_rules, random_sum,
    shifted_lines, rank, sources,
)
from joinpast.books import Book
from joinpast.errors import BadName, NoRows, RowsDiffer, RowTwice, UnknownRow
from joinpast.families import Family
from joinpast.keeping import keeps
from joinpast.shortest import shortest
from joinpast.sums import moved_sum, normal_rule, ordered, part_of, reach, sum_plus, sum_times

PUMP = [("level", 1, 1), ("level", 0, -1), ("pump", 0, -1)]


def is_least_form(rules):
    """Tell whether rules have all properties of the least form."""
    firsts = [rule[0][0] for rule in rules]
    if firsts != sorted(set(firsts)) or any(normal_rule(rule) != rule for rule in rules):
        return False
    for index, rule in enumerate(rules):
        low = rule[0][1]
        for later in rules[index + 1:]:
            pivot = part_of(later, later[0][0])
            width = pivot[-1][0] - pivot[0][0]
            if any(not low <= shift < low + width for shift, _ in part_of(rule, later[0][0])):
                return False
    return True


def changed(source, rules):
    """Return rules from which the same sums follow."""
    out = [ordered(rule) for rule in rules]
    for _ in range(6 if len(out) > 1 else 0):
        one, two = source.sample(range(len(out)), 2)
        factor = [(source.randint(-2, 2), source.randint(-2, 2))]
        out[one] = sum_plus(out[one], sum_times(factor, out[two]))
    out = [moved_sum(sum_times([(0, source.choice([1, -1, 2]))], rule), source.randint(-3, 3)) for rule in out]
    source.shuffle(out)
    return out


class BookFieldsTest(unittest.TestCase):
    def test_interface_example(self):
        book = Book(["pump", "level"], [PUMP])
        self.assertEqual(
            [book.rows, book.rules, book.free_count],
            [("level", "pump"), ((("level", 0, 1), ("level", 1, -1), ("pump", 0, 1)),), 1],
        )
        self.assertIs([("level", 2, 1), ("level", 0, -1), ("pump", 0, -1), ("pump", 1, -1)] in book, True)

    def test_given_rules_stand_as_they_were_passed(self):
        rule = [("b", 3, 2), ("a", 1, -4)]
        book = Book(["b", "a"], [rule, [("a", 0, 1), ("a", 0, -1)], rule, [], [["a", -2, 0], ["b", -1, 1]]])
        same = (("a", 1, -4), ("b", 3, 2))
        self.assertEqual(book.given, (same, (), same, (), (("b", -1, 1),)))
        self.assertEqual(book.rules, ((("a", 0, 1),), (("b", 0, 1),)))
        self.assertTrue(all_tuples(book.given) and all_tuples(book.rules) and all_tuples(book.rows))

    def test_errors_of_the_row_set_come_first(self):
        wrong = [[("c", 0, 1)]]
        self.assertIsInstance(raised(Book, [], wrong), NoRows)
        self.assertEqual(raised(Book, ["a", "a", "X"], wrong).name, "X")
        self.assertIsInstance(raised(Book, ["a", "a", "X"], wrong), BadName)
        self.assertIsInstance(raised(Book, ["a", "b", "a"], wrong), RowTwice)

    def test_unknown_row_in_the_order_of_the_terms(self):
        rules = [[("a", 0, 1)], [("a", 1, 1), ("z", 0, 0), ("c", 0, 1)], [("b", 0, 1)]]
        error = raised(Book, ["a"], rules)
        self.assertIsInstance(error, UnknownRow)
        self.assertEqual(error.name, "z")
        error = raised(Book, ["a"], [[("d", 0, 1), ("c", 0, 1), ("d", 0, -1)]])
        self.assertEqual(error.name, "d")

    def test_arguments_are_copied(self):
        rows, rules = ["b", "a"], [[["a", 0, 1], ["b", 1, 1]]]
        book = Book(rows, rules)
        rows.append("c")
        rules[0][0][2] = 7
        rules[0].append(["a", 5, 5])
        rules.append([["a", 0, 1]])
        self.assertEqual(book.rows, ("a", "b"))
        self.assertEqual(book.given, ((("a", 0, 1), ("b", 1, 1)),))
        self.assertEqual(book.rules, ((("a", 0, 1), ("b", 1, 1)),))


class LeastFormTest(unittest.TestCase):
    def test_known_forms(self):
        self.assertEqual(Book(["x"], [[("x", 5, -6), ("x", 3, 4)]]).rules, ((("x", 0, 2), ("x", 2, -3)),))
        self.assertEqual(Book(["x"], [[("x", 0, 1), ("x", 2, -1)], [("x", 0, 1), ("x", 3, -1)]]).rules,
                         ((("x", 0, 1), ("x", 1, -1)),))
        self.assertEqual(Book(["x"], [[("x", 0, 2)], [("x", 0, 1), ("x", 1, 1)]]).rules, ((("x", 0, 1),),))
        self.assertEqual(Book(["x"], []).rules, ())
        self.assertEqual(Book(["x"], [[]]).rules, ())

    def test_an_earlier_rule_is_short_in_the_first_row_of_a_later_one(self):
        book = Book(["a", "b"], [[("a", 0, 1), ("b", 2, 1)], [("b", 0, 1), ("b", 1, -2)]])
        self.assertEqual(book.rules, ((("a", 0, 4), ("b", 0, 1)), (("b", 0, 1), ("b", 1, -2))))
        book = Book(["a", "b"], [[("a", 0, 1), ("b", -1, 1)], [("b", 0, 1), ("b", 1, -2)]])
        self.assertEqual(book.rules, ((("a", 0, 1), ("b", 0, 2)), (("b", 0, 1), ("b", 1, -2))))

    def test_the_first_term_may_have_a_shift_above_zero(self):
        book = Book(["a", "b", "c"], [[("a", 3, 1), ("b", 1, 1), ("c", 0, 5)], [("b", 0, 1), ("b", 2, 1)]])
        self.assertEqual(book.rules, (
            (("a", 3, 1), ("b", 3, -1), ("c", 0, 5)), (("b", 0, 1), ("b", 2, 1)),
        ))

    def test_a_later_row_may_begin_first(self):
        book = Book(["a", "b"], [[("b", 0, 3)], [("a", 0, 1), ("b", 4, 1)]])
        self.assertEqual(book.rules, ((("a", 0, 1),), (("b", 0, 1),)))

    def test_equal_books_have_the_same_least_form(self):
        for source in sources(300):
            rows = random_rows(source, 4)
            rules = random_rules(source, rows, most=4)
            book = Book(rows, rules)
            self.assertTrue(is_least_form(book.rules), rules)
            other = Book(rows[::-1], changed(source, rules) + [[]])
            self.assertEqual(book.rules, other.rules)
            self.assertTrue(book == other)
            for rule in rules:
                self.assertIn(rule, book)

    def test_nothing_else_follows_from_the_least_form(self):
        for source in sources(80):
            rows = random_rows(source, 3)
            rules = random_rules(source, rows, most=4)
            book = Book(rows, rules)
            for length in (1, 3, 5):
                self.assertEqual(followers(book.rules, length), followers(rules, length), rules)

    def test_six_rows_and_eight_rules(self):
        rows = list("abcdef")
        rules = [[(row, 0, 1), (after, 1, -1)] for row, after in zip(rows, rows[1:])]
        book = Book(rows, rules + rules[:3])
        self.assertEqual((len(book), book.free_count), (5, 1))
        self.assertEqual(book.rules[0], (("a", 0, 1), ("f", 5, -1)))
        self.assertTrue(is_least_form(book.rules))


class BookOperatorsTest(unittest.TestCase):
    def test_contains(self):
        book = Book(["a", "b"], [[("a", 1, 2), ("b", 0, -2)]])
        for terms in ([], [("a", 1, 1), ("b", 0, -1)], [("c", 0, 0)], [("c", 0, 1), ("c", 0, -1)],
                      [("a", 1, 1), ("b", 0, -1), ("c", 4, 0)], [["a", -6, 3], ["b", -7, -3]]):
            self.assertIs(terms in book, True, terms)
        for terms in ([("a", 0, 1)], [("b", 0, 1)], [("a", 1, 1), ("b", 0, -2)], [("c", 0, 1)],
                      [("a", 1, 1), ("b", 0, -1), ("c", 4, 1)]):
            self.assertIs(terms in book, False, terms)
        self.assertIs([("a", 0, 5)] in Book.free(["a"]), False)
        self.assertIs([("a", 0, 5)] in Book.zero(["a"]), True)

    def test_a_sum_may_follow_only_when_multiplied(self):
        book = Book(["a"], [[("a", 0, 2), ("a", 1, 2)]])
        self.assertIn([("a", 0, 1), ("a", 1, 1)], book)
        book = Book(["a", "b"], [[("a", 0, 2), ("b", 0, 1)], [("a", 0, 3), ("b", 0, 3), ("b", 1, 3)]])
        self.assertIn([("b", 0, 1), ("b", 1, 2)], book)

    def test_contains_against_neighbouring_places(self):
        for source in sources(150):
            rows = random_rows(source, 3)
            rules = random_rules(source, rows)
            book = Book(rows, rules)
            terms = random_sum(source, rows)
            mixed = ()
            for rule in rules:
                mixed = sum_plus(mixed, sum_times([(source.randint(-2, 2), source.randint(-2, 2))], rule))
            self.assertIs(terms in book, naively_follows(rules, terms), (rules, terms))
            self.assertIn(mixed, book)
            self.assertIs(sum_plus(mixed, terms) in book, terms in book)

    def test_and(self):
        one = Book(["a", "b"], [[("a", 0, 2), ("b", 1, 2)]])
        two = Book(["c", "b"], [[("c", 0, 1), ("b", 0, -1)], []])
        both = one & two
        self.assertEqual(both, Book(["a", "b", "c"], [[("a", 0, 1), ("b", 1, 1)], [("b", 0, 1), ("c", 0, -1)]]))
        self.assertEqual(both.rows, ("a", "b", "c"))
        self.assertEqual(both.given, both.rules)
        self.assertEqual((Book.free(["a"]) & Book.free(["b"])).rows, ("a", "b"))
        again = Book(["a"], [[("a", 3, 2)]]) & Book(["a"], [[("a", 0, 4), ("a", 1, 1)]])
        self.assertEqual((again.given, again.rules), (((("a", 0, 1),),), ((("a", 0, 1),),)))
        self.assertEqual((one & one).given, one.rules)

    def test_plus_is_kept_by_sums(self):
        one = Book(["a"], [[("a", 0, 1), ("a", 1, -1)]])
        two = Book(["a"], [[("a", 0, 1), ("a", 1, 1)]])
        self.assertEqual((one + two).rules, ((("a", 0, 1), ("a", 2, -1)),))
        self.assertEqual((one + two).given, (one + two).rules)
        self.assertEqual(one + one, one)
        self.assertEqual((one + Book.zero(["a"])), one)
        self.assertEqual((one + Book.free(["a"])), Book.free(["a"]))
        self.assertEqual((Book.zero(["a"]) + Book.zero(["a"])).given, ((("a", 0, 1),),))
        error = raised(lambda: one + Book.free(["a", "b"]))
        self.assertIsInstance(error, RowsDiffer)
        self.assertEqual((error.one, error.two), (("a",), ("a", "b")))

    def test_plus_of_chance(self):
        for source in sources(120):
            rows = random_rows(source, 3)
            one, two = (Book(rows, random_rules(source, rows)) for _ in range(2))
            both = one + two
            self.assertEqual(both, two + one)
            self.assertTrue(is_least_form(both.rules))
            self.assertEqual(both.given, both.rules)
            for rule in both:
                self.assertTrue(rule in one and rule in two)
            self.assertEqual(len(both), len(one) + len(two) - len(one & two))
            for length in (2, 4):
                joined = list(one.given) + list(two.given)
                shared = followers(one.given, length) + followers(two.given, length)
                lines = [followers_lines(book.given, length) for book in (one, two)]
                self.assertEqual(followers(both.rules, length), shared - rank(lines[0] + lines[1]), joined)

    def test_equality(self):
        one = Book(["a", "b"], [[("a", 0, 1), ("b", 1, -1)], [("a", 0, 1), ("b", 0, 1)]])
        two = Book(["b", "a"], [[("b", 0, 1), ("b", 1, 1)], [("a", 3, -2), ("b", 3, -2)], []])
        self.assertTrue(one == two)
        self.assertFalse(one != two)
        self.assertFalse(one == Book(["a", "b"], [[("a", 0, 1), ("b", 1, -1)]]))
        self.assertFalse(Book.free(["a"]) == Book.free(["b"]))
        self.assertFalse(Book.free(["a"]) == Book.free(["a", "b"]))
        for other in (None, 0, "a", (), one.rules, Family.zero(["a", "b"])):
            self.assertIs(one == other, False)
            self.assertIs(one != other, True)

    def test_len_iteration_and_free_count(self):
        rules = [[("a", 0, 1), ("b", 0, 1)], [("c", 2, 3)], [("c", 0, 1), ("c", 1, 1)]]
        book = Book(["c", "a", "b"], rules)
        self.assertEqual(list(book), [(("a", 0, 1), ("b", 0, 1)), (("c", 0, 1),)])
        self.assertEqual(tuple(book), book.rules)
        self.assertEqual((len(book), book.free_count), (2, 1))
        self.assertEqual((len(Book.free(["a", "b"])), Book.free(["a", "b"]).free_count), (0, 2))

    def test_free_and_zero(self):
        free, zero = Book.free(["b", "a"]), Book.zero(["b", "a"])
        self.assertEqual((free.rows, free.rules, free.given), (("a", "b"), (), ()))
        self.assertEqual((zero.rows, zero.rules), (("a", "b"), ((("a", 0, 1),), (("b", 0, 1),))))
        self.assertEqual((zero.given, zero.free_count), (zero.rules, 0))
        self.assertTrue(keeps(zero, Family.zero(["a", "b"])) and keeps(free, Family.pulse(["a", "b"], "a")))
        for make in (Book.free, Book.zero):
            self.assertIsInstance(raised(make, []), NoRows)
            self.assertIsInstance(raised(make, ["a", "a", ""]), BadName)
            self.assertIsInstance(raised(make, ["a", "a"]), RowTwice)


class ShorterOnTheWayTest(unittest.TestCase):
    """`&` and `+` where the rules of the books are longer than need be."""

    def assert_least(self, book, rules):
        self.assertTrue(is_least_form(book.rules), rules)
        self.assertEqual(book.given, book.rules)
        for rule in rules:
            self.assertIn(rule, book)
        for length in (1, 3, 5, 8):
            self.assertEqual(followers(book.rules, length), followers(rules, length), rules)

    def test_and_of_rules_with_unlike_reaches(self):
        rows = ["a", "b", "c"]
        one = Book(rows, [[("a", 0, 1), ("b", 3, 1), ("c", 0, 2)], [("b", 0, 1), ("c", 5, -1)]])
        two = Book(rows, [[("a", 4, 3), ("b", 0, 1)], [("c", 0, 1), ("c", 1, -2)]])
        self.assertNotEqual(shortest(one), one.rules)
        self.assert_least(one & two, one.given + two.given)
        self.assertEqual(one & two, two & one)
        self.assertEqual((one & one).rules, one.rules)
        self.assert_least(one & Book(["c", "d"], [[("d", 0, 1), ("c", 2, 1)]]), one.given + ((("c", 2, 1), ("d", 0, 1)),))

    def test_plus_of_rules_with_unlike_reaches(self):
        rows = ["a", "b"]
        one = Book(rows, [[("a", 0, 1), ("b", 3, 1)], [("b", 0, 1), ("b", 5, -1)]])
        two = Book(rows, [[("a", 0, 1), ("b", 3, 1)], [("b", 0, 1), ("b", 2, -1)]])
        self.assertNotEqual(shortest(one), one.rules)
        both = one + two
        self.assertTrue(is_least_form(both.rules))
        six = [("b", 0, 1), ("b", 1, 1), ("b", 5, -1), ("b", 6, -1)]
        self.assertEqual(both, Book(rows, [one.given[0], six]))
        self.assertEqual(one + one, one)
        self.assertEqual((one + Book.zero(rows)).rules, one.rules)

    def test_mixed_rules_of_chance(self):
        shorter = 0
        for source in sources(150):
            rows = random_rows(source, 4)
            rules = [
                random_sum(source, rows, terms=5, shift=source.randint(0, 4)) for _ in range(source.randint(1, 3))
            ]
            mixed = changed(source, rules)
            cut = source.randint(0, len(mixed))
            one, two = Book(rows, mixed[:cut]), Book(rows, mixed[cut:])
            shorter += sum(shortest(book) != tuple(sorted(book.rules, key=reach)) for book in (one, two))
            both = one & two
            self.assertEqual(both, Book(rows, rules))
            self.assertEqual((both.rules, both.given), (Book(rows, rules).rules,) * 2)
            self.assert_least(both, mixed)
            three = Book(rows, changed(source, rules)[:cut])
            added = one + three
            self.assertTrue(is_least_form(added.rules))
            self.assertEqual(added.given, added.rules)
            self.assertEqual(added, three + one)
            self.assertTrue(all(rule in one and rule in three for rule in added))
            for length in (2, 5):
                lines = [followers_lines(book.given, length) for book in (one, three)]
                counts = [followers(book.given, length) for book in (one, three)]
                self.assertEqual(followers(added.rules, length), sum(counts) - rank(lines[0] + lines[1]))
        self.assertGreater(shorter, 10)


def followers_lines(rules, length):
    """Return lines that span all sums with shifts below `length` that follow."""
    book = Book(sorted({row for rule in rules for row, _, _ in rule} | {"a"}), rules)
    found = []
    lines = shifted_lines(book.rules, -8, length + 8)
    outside = sorted({key for line in lines for key in line if not 0 <= key[0] < length})
    while outside:
        key = outside.pop()
        holders = [line for line in lines if key in line]
        lines = [line for line in lines if key not in line]
        for line in holders[1:]:
            left = {at: line.get(at, 0) * holders[0][key] - holders[0].get(at, 0) * line[key]
                    for at in {**line, **holders[0]}}
            lines.append({at: left[at] for at in left if left[at]})
    for line in lines:
        if line:
            found.append(line)
    return found


if __name__ == "__main__":
    unittest.main()
