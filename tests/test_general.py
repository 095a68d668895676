"""Rules for everything: tuples, copies, the same answers, bounds that were left."""

import unittest

from helpers import all_tuples
from joinpast.blocks import blocked, blocked_book, unblocked
from joinpast.books import Book
from joinpast.comparing import parting, within
from joinpast.completing import completed
from joinpast.courses import course, value
from joinpast.divisors import common, common_parts, least_multiple
from joinpast.families import Family
from joinpast.following import counterexample, derivation, is_derivation
from joinpast.gaps import hard_pair, is_steerable, least_gap, universal_gap
from joinpast.hiding import filled, shown_book
from joinpast.joins import is_bar, join
from joinpast.keeping import breaks, first_break, keeps
from joinpast.looking import look
from joinpast.ownrules import family_with, own_rule
from joinpast.partings import parting_window
from joinpast.polynomials import divides, normal_polynomial, poly_divided, poly_plus, poly_times, polynomial, span
from joinpast.pulseparts import from_pulses, pulse_parts
from joinpast.pulses import pulses, widths
from joinpast.quietest import quietest
from joinpast.ratios import fraction, over, plus, times
from joinpast.rowsets import row_set
from joinpast.seeing import formula, told_rows, unseen, unseen_book
from joinpast.selfgoing import least_polynomial, obeys
from joinpast.shortest import reaches, shortest
from joinpast.splices import spliced
from joinpast.spots import fixing, free_spots, unfixed
from joinpast.steering import split, steerable_part
from joinpast.sums import (
    moved_sum, normal_rule, ordered, part_of, reach, rows_of, sum_plus, sum_times,
)
from joinpast.sumsplits import split_sum
from joinpast.tables import count_obeying, period_count, table
from joinpast.thinning import refined, thinned, thinned_book
from joinpast.turning import renamed_book, turned_book
from joinpast.unchangeables import unchangeable_parts, unchangeables
from joinpast.windows import can_stand, window_break, window_freedom, window_rules

P = [[1, 2], [0, -3], [1, 1]]
Q = [[2, 3], [-1, 6]]
TERMS = [["b", 1, 2], ["a", 0, -3], ["b", 1, 1]]
RULES = [TERMS, [["a", 2, 1], ["b", 0, 5]]]
ENTRIES = [[1, [2, 4], 0], [[-1, 3], 0, 5]]
WINDOW = [[1], [[1, 2]]]


def book():
    return Book(["a", "b"], RULES)


def family():
    return Family(["a", "b"], -1, ENTRIES, before=P, after=Q[:1])


def loose():
    return Book(["a", "b"], RULES[:1])


def zeros():
    return Family.zero(["a", "b"])


def look_ahead(*arguments):
    return look(*arguments, ahead=3)


CALLS = [
    (fraction, [2, -4]), (plus, [1, 2], [3, 4]), (times, [1, 2], [3, 4]), (over, [1, 2], [3, 4]),
    (polynomial, P), (normal_polynomial, P), (span, P), (poly_plus, P, Q), (poly_times, P, Q), (poly_divided, P, Q),
    (divides, P, Q), (common, P, Q), (common_parts, P, Q), (least_multiple, P, Q), (row_set, ["b", "a"]),
    (ordered, TERMS), (sum_plus, TERMS, TERMS), (sum_times, P, TERMS), (moved_sum, TERMS, 2), (part_of, TERMS, "b"),
    (rows_of, TERMS), (reach, TERMS), (normal_rule, TERMS),
    (shortest, book()), (reaches, book()), (window_rules, book(), 4), (can_stand, book(), WINDOW),
    (window_break, book(), [[1] * 9, [2] * 9]), (window_freedom, book(), 5),
    (derivation, book(), sum_times(P, TERMS)), (is_derivation, book(), TERMS, [1, [[[0, 1]], []]]),
    (first_break, book(), family()), (keeps, book(), family()), (value, family(), TERMS, 3),
    (obeys, family(), P), (within, book(), book()), (parting_window, book(), Book.free(["a", "b"])),
    (fixing, book(), [["a", 0], ["b", 0]], ["b", 1]), (free_spots, book(), [["a", 0], ["a", 1], ["b", 1], ["a", 3]]),
    (is_bar, loose(), zeros(), zeros(), TERMS), (least_gap, loose(), zeros(), zeros()), (is_steerable, loose()),
    (universal_gap, loose()), (widths, loose()), (pulse_parts, loose(), zeros()),
    (table, book()), (count_obeying, book(), P), (period_count, book(), 3), (own_rule, book(), TERMS),
    (unchangeables, book()), (unchangeable_parts, book(), TERMS),
    (formula, book(), ["b"], TERMS), (told_rows, book(), ["b"]), (look_ahead, book(), ["b", "a"], TERMS),
    (least_polynomial, Family(["a"], 0, [[1]], before=[[0, 1], [1, 1]], after=[[0, 1], [1, 1]])),
]


def frozen(value_passed):
    """Return a list at any level as a tuple."""
    if isinstance(value_passed, (list, tuple)):
        return tuple(frozen(part) for part in value_passed)
    return value_passed


class GeneralTest(unittest.TestCase):
    def test_answers_are_tuples_and_the_same_again(self):
        for call, *arguments in CALLS:
            before = frozen(arguments)
            answer = call(*arguments)
            self.assertTrue(all_tuples(answer), call)
            self.assertEqual(frozen(arguments), before, call)
            self.assertEqual(call(*arguments), answer, call)
            self.assertEqual(call(*[frozen(argument) for argument in arguments]), answer, call)

    def test_true_and_false(self):
        answers = [
            divides(P, Q), can_stand(book(), WINDOW), keeps(book(), family()), obeys(family(), P),
            is_derivation(book(), [], (1, [[], []])), TERMS in book(), book() == book(), family() == family(),
            book() == 1, family() == 1, family().is_finite,
        ]
        self.assertEqual({type(answer) for answer in answers}, {bool})

    def test_lists_and_tuples_are_alike(self):
        self.assertEqual(Book(("a", "b"), frozen(RULES)).given, book().given)
        other = Family(("a", "b"), -1, frozen(ENTRIES), before=frozen(P), after=frozen(Q[:1]))
        self.assertEqual(other.entries, family().entries)
        self.assertTrue(other == family())
        self.assertEqual(completed(book(), WINDOW), completed(book(), frozen(WINDOW)))
        self.assertEqual(
            spliced(family(), family(), 0, middle=[[[1, 2]], [3]]),
            spliced(family(), family(), 0, middle=(((1, 2),), (3,))),
        )
        self.assertEqual(family().only(["b"]), family().only(("b",)))
        self.assertEqual(family().applied(P), family().applied(frozen(P)))
        self.assertEqual(family().scaled([1, 2]), family().scaled((1, 2)))
        self.assertEqual(counterexample(book(), TERMS[:1]), counterexample(book(), frozen(TERMS[:1])))
        self.assertEqual(course(family(), TERMS), course(family(), frozen(TERMS)))

    def test_answers_hold_no_lists(self):
        for found in (family() + family(), family().moved(1), completed(book(), WINDOW), course(family(), TERMS),
                      spliced(family(), family(), 0), counterexample(book(), TERMS[:1])):
            self.assertTrue(all_tuples((found.rows, found.entries, found.before, found.after)))
            self.assertTrue(all_tuples(found.window(-2, 5)) and all_tuples(found.extent()))
        for found in (book() & book(), book() + book(), turned_book(book()), renamed_book(book(), "a", "c")):
            self.assertTrue(all_tuples((found.rows, found.given, found.rules)))
            self.assertEqual(found.given, found.rules)
            self.assertTrue(all_tuples(list(found)[0]))
        self.assertTrue(all(all_tuples(pair) for pair in breaks(Book(["a"], [[("a", 0, 1)]]), Family.pulse(["a"], "a"))))

    def test_families_and_books_that_are_returned_hold_no_lists(self):
        tank = pulses(loose())[0]
        families = [
            parting(book(), loose()), unfixed(loose(), [["a", 0]], ["b", 2]), join(loose(), zeros(), tank, gap=4).family,
            *hard_pair(loose(), 0), tank, from_pulses(loose(), [[[2, [1, 2]], [0, 3]]]),
            quietest(loose(), zeros(), tank, gap=4), family_with(loose(), [["a", 0, 1]], Family(["q"], 0, [[1, [1, 2]]])),
            *split(loose(), tank), filled(loose(), Family(["a"], 0, [[1, 2]])), *split_sum(book(), loose(), tank),
            blocked(tank, 2), unblocked(blocked(tank, 3), 3), thinned(tank, 2), refined(loose(), thinned(tank, 2), 2),
            unseen(loose(), ["a"], [["b", 0, 1]]) or tank,
        ]
        for found in families:
            self.assertTrue(all_tuples((found.rows, found.entries, found.before, found.after)))
        for found in (steerable_part(book()), shown_book(book(), ["a"]), blocked_book(loose(), 2), unseen_book(book(), ["a"]),
                      thinned_book(loose(), 2)):
            self.assertTrue(all_tuples((found.rows, found.given, found.rules)))
            self.assertEqual(found.given, found.rules)
        self.assertIsInstance(pulses(loose()), tuple)
        self.assertTrue(all_tuples(join(loose(), zeros(), tank).bar))

    def test_lists_and_tuples_are_alike_in_what_is_built_later(self):
        spots = [["a", 0], ["b", -2], ["a", 2]]
        self.assertEqual(unfixed(book(), spots, ["b", 5]), unfixed(book(), frozen(spots), ("b", 5)))
        self.assertEqual(unseen(loose(), ["a"], TERMS), unseen(loose(), ("a",), frozen(TERMS)))
        self.assertEqual(unseen_book(loose(), ["a"]), unseen_book(loose(), ("a",)))
        self.assertEqual(shown_book(loose(), ["b"]), shown_book(loose(), ("b",)))
        parts = [[[2, [1, 2]], [0, 3]]]
        self.assertEqual(from_pulses(loose(), parts), from_pulses(loose(), frozen(parts)))
        wanted = Family(["q"], 0, [[1, 5]])
        self.assertEqual(family_with(loose(), TERMS[1:2], wanted), family_with(loose(), frozen(TERMS[1:2]), wanted))

    def test_answers_beyond_the_bounds_may_be_passed_again(self):
        rows = list("abcdef")
        wide = blocked_book(Book(rows, [[("a", 0, 1), ("b", 1, 2)]]), 2)
        self.assertEqual((len(wide.rows), len(wide)), (12, 2))
        self.assertEqual(shown_book(wide, wide.rows), wide)
        self.assertEqual(len(told_rows(wide, wide.rows[:2])), 4)
        self.assertEqual(sum(widths(wide)), sum(reaches(wide)))
        far = pulses(loose())[0].moved(60).moved(60)
        self.assertEqual(least_gap(loose(), zeros(), far), 0)
        self.assertEqual(from_pulses(loose(), pulse_parts(loose(), far)), far)
        long = count_obeying(book(), poly_times(*[[(0, -1), (40, 1)]] * 2))
        self.assertEqual(long, period_count(book(), 40))

    def test_what_was_returned_may_be_passed_again(self):
        p = polynomial([(20, 10 ** 9), (-20, 1)])
        for _ in range(3):
            p = poly_times(p, p)
        self.assertEqual((p[0][0], p[-1][0], p[-1][1]), (-160, 160, 10 ** 72))
        self.assertEqual(poly_divided(p, p), (1, ((0, 1),), ()))
        terms = sum_times(p, [("a", 20, 1)])
        self.assertEqual(reach(terms), 320)
        self.assertIn(terms, Book(["a"], [sum_times(p, [("a", 0, 1)])]))
        wide = Family(["a"], 0, [[1]]).applied(p)
        self.assertEqual(wide.extent(), (-160, 160))
        self.assertEqual(wide.moved(60).moved(60).moved(60).extent(), (20, 340))
        self.assertEqual(first_break(Book.zero(["a"]), wide.moved(30).moved(30)), (20, 0))
        big = fraction((10 ** 30, 1))
        self.assertEqual(times(times(big, big), over(1, big)), big)
        family_of_six = Family.zero(list("abcdef")).beside(Family.zero(["g"]))
        self.assertEqual(len(family_of_six.rows), 7)
        rules = window_rules(Book(["a"], [[("a", 0, 1), ("a", 1, -2)]]), 24)
        self.assertEqual(len(Book(["a"], rules).given), 23)

    def test_numbers_of_any_size(self):
        huge = 10 ** 200
        self.assertEqual(ordered([("a", 0, huge), ("a", 0, 1)]), (("a", 0, huge + 1),))
        self.assertEqual(normal_polynomial([(0, huge), (1, -huge)]), ((0, -1), (1, 1)))
        self.assertTrue(is_derivation(Book(["a"], [[("a", 0, 1)]]), [("a", 0, 1)], (huge, [[(0, huge)]])))


if __name__ == "__main__":
    unittest.main()
