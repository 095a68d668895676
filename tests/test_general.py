"""Rules for everything: tuples, copies, the same answers, bounds that were left."""

import unittest

from helpers import all_tuples
from joinpast.books import Book
from joinpast.completing import completed
from joinpast.courses import course, value
from joinpast.divisors import common, common_parts, least_multiple
from joinpast.families import Family
from joinpast.following import counterexample, derivation, is_derivation
from joinpast.keeping import breaks, first_break, keeps
from joinpast.polynomials import divides, normal_polynomial, poly_divided, poly_plus, poly_times, polynomial, span
from joinpast.ratios import fraction, over, plus, times
from joinpast.rowsets import row_set
from joinpast.selfgoing import least_polynomial, obeys
from joinpast.shortest import reaches, shortest
from joinpast.splices import spliced
from joinpast.sums import (
    moved_sum, normal_rule, ordered, part_of, reach, rows_of, sum_plus, sum_times,
)
from joinpast.turning import renamed_book, turned_book
from joinpast.windows import can_stand, window_break, window_freedom, window_rules

P = [[1, 2], [0, -3], [1, 1]]
Q = [[2, 3], [-1, 6]]
TERMS = [["b", 1, 2], ["a", 0, -3], ["b", 1, 1]]
RULES = [TERMS, [["a", 2, 1], ["b", 0, 5]]]
ENTRIES = [[1, [2, 4], 0], [[-1, 3], 0, 5]]
WINDOW = [[1], [[1, 2]]]


def book():
    return Book(["a", "b"], RULES)


def family():
    return Family(["a", "b"], -1, ENTRIES, before=P, after=Q[:1])


CALLS = [
    (fraction, [2, -4]), (plus, [1, 2], [3, 4]), (times, [1, 2], [3, 4]), (over, [1, 2], [3, 4]),
    (polynomial, P), (normal_polynomial, P), (span, P), (poly_plus, P, Q), (poly_times, P, Q), (poly_divided, P, Q),
    (divides, P, Q), (common, P, Q), (common_parts, P, Q), (least_multiple, P, Q), (row_set, ["b", "a"]),
    (ordered, TERMS), (sum_plus, TERMS, TERMS), (sum_times, P, TERMS), (moved_sum, TERMS, 2), (part_of, TERMS, "b"),
    (rows_of, TERMS), (reach, TERMS), (normal_rule, TERMS),
    (shortest, book()), (reaches, book()), (window_rules, book(), 4), (can_stand, book(), WINDOW),
    (window_break, book(), [[1] * 9, [2] * 9]), (window_freedom, book(), 5),
    (derivation, book(), sum_times(P, TERMS)), (is_derivation, book(), TERMS, [1, [[[0, 1]], []]]),
    (first_break, book(), family()), (keeps, book(), family()), (value, family(), TERMS, 3),
    (obeys, family(), P), (least_polynomial, Family(["a"], 0, [[1]], before=[[0, 1], [1, 1]], after=[[0, 1], [1, 1]])),
]


def frozen(value_passed):
    """Return a list at any level as a tuple."""
    if isinstance(value_passed, (list, tuple)):
        return tuple(frozen(part) for part in value_passed)
    return value_passed


class GeneralTest(unittest.TestCase):
    def test_answers_are_tuples_and_the_same_again(self):
        for call, *arguments in CALLS:
            before = frozen(arguments)
            answer = call(*arguments)
            self.assertTrue(all_tuples(answer), call)
            self.assertEqual(frozen(arguments), before, call)
            self.assertEqual(call(*arguments), answer, call)
            self.assertEqual(call(*[frozen(argument) for argument in arguments]), answer, call)

    def test_true_and_false(self):
        answers = [
            divides(P, Q), can_stand(book(), WINDOW), keeps(book(), family()), obeys(family(), P),
            is_derivation(book(), [], (1, [[], []])), TERMS in book(), book() == book(), family() == family(),
            book() == 1, family() == 1, family().is_finite,
        ]
        self.assertEqual({type(answer) for answer in answers}, {bool})

    def test_lists_and_tuples_are_alike(self):
        self.assertEqual(Book(("a", "b"), frozen(RULES)).given, book().given)
        other = Family(("a", "b"), -1, frozen(ENTRIES), before=frozen(P), after=frozen(Q[:1]))
        self.assertEqual(other.entries, family().entries)
        self.assertTrue(other == family())
        self.assertEqual(completed(book(), WINDOW), completed(book(), frozen(WINDOW)))
        self.assertEqual(
            spliced(family(), family(), 0, middle=[[[1, 2]], [3]]),
            spliced(family(), family(), 0, middle=(((1, 2),), (3,))),
        )
        self.assertEqual(family().only(["b"]), family().only(("b",)))
        self.assertEqual(family().applied(P), family().applied(frozen(P)))
        self.assertEqual(family().scaled([1, 2]), family().scaled((1, 2)))
        self.assertEqual(counterexample(book(), TERMS[:1]), counterexample(book(), frozen(TERMS[:1])))
        self.assertEqual(course(family(), TERMS), course(family(), frozen(TERMS)))

    def test_answers_hold_no_lists(self):
        for found in (family() + family(), family().moved(1), completed(book(), WINDOW), course(family(), TERMS),
                      spliced(family(), family(), 0), counterexample(book(), TERMS[:1])):
            self.assertTrue(all_tuples((found.rows, found.entries, found.before, found.after)))
            self.assertTrue(all_tuples(found.window(-2, 5)) and all_tuples(found.extent()))
        for found in (book() & book(), book() + book(), turned_book(book()), renamed_book(book(), "a", "c")):
            self.assertTrue(all_tuples((found.rows, found.given, found.rules)))
            self.assertEqual(found.given, found.rules)
            self.assertTrue(all_tuples(list(found)[0]))
        self.assertTrue(all(all_tuples(pair) for pair in breaks(Book(["a"], [[("a", 0, 1)]]), Family.pulse(["a"], "a"))))

    def test_what_was_returned_may_be_passed_again(self):
        p = polynomial([(20, 10 ** 9), (-20, 1)])
        for _ in range(3):
            p = poly_times(p, p)
        self.assertEqual((p[0][0], p[-1][0], p[-1][1]), (-160, 160, 10 ** 72))
        self.assertEqual(poly_divided(p, p), (1, ((0, 1),), ()))
        terms = sum_times(p, [("a", 20, 1)])
        self.assertEqual(reach(terms), 320)
        self.assertIn(terms, Book(["a"], [sum_times(p, [("a", 0, 1)])]))
        wide = Family(["a"], 0, [[1]]).applied(p)
        self.assertEqual(wide.extent(), (-160, 160))
        self.assertEqual(wide.moved(60).moved(60).moved(60).extent(), (20, 340))
        self.assertEqual(first_break(Book.zero(["a"]), wide.moved(30).moved(30)), (20, 0))
        big = fraction((10 ** 30, 1))
        self.assertEqual(times(times(big, big), over(1, big)), big)
        family_of_six = Family.zero(list("abcdef")).beside(Family.zero(["g"]))
        self.assertEqual(len(family_of_six.rows), 7)
        rules = window_rules(Book(["a"], [[("a", 0, 1), ("a", 1, -2)]]), 24)
        self.assertEqual(len(Book(["a"], rules).given), 23)

    def test_numbers_of_any_size(self):
        huge = 10 ** 200
        self.assertEqual(ordered([("a", 0, huge), ("a", 0, 1)]), (("a", 0, huge + 1),))
        self.assertEqual(normal_polynomial([(0, huge), (1, -huge)]), ((0, -1), (1, 1)))
        self.assertTrue(is_derivation(Book(["a"], [[("a", 0, 1)]]), [("a", 0, 1)], (huge, [[(0, huge)]])))


if __name__ == "__main__":
    unittest.main()
