"""Rules for everything: tuples, copies, the same answers, bounds that were left."""

import unittest

from helpers import all_tuples
from joinpast.alike import compare, translated
from joinpast.blocks import blocked, blocked_book, unblocked
from joinpast.booknotes import format_book, parse_book
from joinpast.books import Book
from joinpast.comparing import parting, within
from joinpast.completing import completed
from joinpast.courses import course, value
from joinpast.desks import Desk, Trial, inside, perform
from joinpast.despites import despite
from joinpast.divisors import common, common_parts, least_multiple
from joinpast.enforcing import bounds, enforce
from joinpast.explaining import explains, strictest
from joinpast.families import Family
from joinpast.familynotes import format_family, parse_family
from joinpast.fewest import fewest_shown
from joinpast.following import counterexample, derivation, is_derivation
from joinpast.freerows import free_sets, is_free
from joinpast.fresh import are_fresh, fresh_rules
from joinpast.gaps import hard_pair, is_steerable, least_gap, universal_gap
from joinpast.hiding import filled, shown_book
from joinpast.joins import is_bar, join
from joinpast.keeping import breaks, first_break, keeps
from joinpast.looking import look
from joinpast.machines import Machine, Trying, attempt, during
from joinpast.memory import family_with_memory, memory, memory_size
from joinpast.ownrules import family_with, own_rule
from joinpast.partings import parting_window
from joinpast.polynomials import divides, normal_polynomial, poly_divided, poly_plus, poly_times, polynomial, span
from joinpast.pulseparts import from_pulses, pulse_parts
from joinpast.pulses import pulses, widths
from joinpast.quietest import quietest
from joinpast.ratios import fraction, over, plus, times
from joinpast.rowsets import row_set
from joinpast.seeing import formula, told_rows, unseen, unseen_book
from joinpast.selfgoing import least_polynomial, obeys
from joinpast.shortest import reaches, shortest
from joinpast.showing import first_unshown, shows, unshown_rule
from joinpast.splices import spliced
from joinpast.spots import fixing, free_spots, unfixed
from joinpast.steering import split, steerable_part
from joinpast.stretches import liveliness, read_off, stretch_shows
from joinpast.sumnotes import (
    format_fraction, format_polynomial, format_sum, parse_fraction, parse_polynomial, parse_sum,
)
from joinpast.sums import (
    moved_sum, normal_rule, ordered, part_of, reach, rows_of, sum_plus, sum_times,
)
from joinpast.sumsplits import split_sum
from joinpast.switching import switch, switched
from joinpast.tables import count_obeying, period_count, table
from joinpast.thinning import refined, thinned, thinned_book
from joinpast.timely import delay, foreseeing, is_timely, response
from joinpast.truths import suspects, truth
from joinpast.turning import renamed_book, turned_book
from joinpast.unchangeables import unchangeable_parts, unchangeables
from joinpast.windows import can_stand, window_break, window_freedom, window_rules

P = [[1, 2], [0, -3], [1, 1]]
Q = [[2, 3], [-1, 6]]
TERMS = [["b", 1, 2], ["a", 0, -3], ["b", 1, 1]]
RULES = [TERMS, [["a", 2, 1], ["b", 0, 5]]]
ENTRIES = [[1, [2, 4], 0], [[-1, 3], 0, 5]]
WINDOW = [[1], [[1, 2]]]


def book():
    return Book(["a", "b"], RULES)


def family():
    return Family(["a", "b"], -1, ENTRIES, before=P, after=Q[:1])


def loose():
    return Book(["a", "b"], RULES[:1])


def zeros():
    return Family.zero(["a", "b"])


def look_ahead(*arguments):
    return look(*arguments, ahead=3)


def suspected(*arguments):
    return suspects(*arguments, liars=2)


def sure_formulas(*arguments):
    return despite(*arguments, liars=0).formulas


def likeness(one, two):
    found = compare(one, two)
    return (found.alike, found.there, found.back, found.polynomial)


def switch_fields(book_passed, wish):
    found = switch(book_passed, wish)
    return (found.gap, found.bound)


def machine_answers(book_passed, values, window):
    machine = Machine(book_passed, values)
    answers = [machine.remembered, machine.lets([entry[0] for entry in window]), attempt(machine, window)]
    return (*answers, during(Trying(machine), [window]), machine.run(window), machine.at_rest)


def desk_answers(rows, steps):
    desk = Desk(rows)
    return (perform(desk, steps), desk.deeds, inside(Trial(desk), steps), desk.deeds, desk.standing_book.given, desk.rows)



CALLS = [
    (fraction, [2, -4]), (plus, [1, 2], [3, 4]), (times, [1, 2], [3, 4]), (over, [1, 2], [3, 4]),
    (polynomial, P), (normal_polynomial, P), (span, P), (poly_plus, P, Q), (poly_times, P, Q), (poly_divided, P, Q),
    (divides, P, Q), (common, P, Q), (common_parts, P, Q), (least_multiple, P, Q), (row_set, ["b", "a"]),
    (ordered, TERMS), (sum_plus, TERMS, TERMS), (sum_times, P, TERMS), (moved_sum, TERMS, 2), (part_of, TERMS, "b"),
    (rows_of, TERMS), (reach, TERMS), (normal_rule, TERMS),
    (shortest, book()), (reaches, book()), (window_rules, book(), 4), (can_stand, book(), WINDOW),
    (window_break, book(), [[1] * 9, [2] * 9]), (window_freedom, book(), 5),
    (derivation, book(), sum_times(P, TERMS)), (is_derivation, book(), TERMS, [1, [[[0, 1]], []]]),
    (first_break, book(), family()), (keeps, book(), family()), (value, family(), TERMS, 3),
    (obeys, family(), P), (within, book(), book()), (parting_window, book(), Book.free(["a", "b"])),
    (fixing, book(), [["a", 0], ["b", 0]], ["b", 1]), (free_spots, book(), [["a", 0], ["a", 1], ["b", 1], ["a", 3]]),
    (is_bar, loose(), zeros(), zeros(), TERMS), (least_gap, loose(), zeros(), zeros()), (is_steerable, loose()),
    (universal_gap, loose()), (widths, loose()), (pulse_parts, loose(), zeros()),
    (table, book()), (count_obeying, book(), P), (period_count, book(), 3), (own_rule, book(), TERMS),
    (unchangeables, book()), (unchangeable_parts, book(), TERMS),
    (formula, book(), ["b"], TERMS), (told_rows, book(), ["b"]), (look_ahead, book(), ["b", "a"], TERMS),
    (fewest_shown, book(), [TERMS, [["a", 0, 1]]]), (sure_formulas, book(), ["b", "a"], TERMS),
    (suspected, loose(), Family(["b", "a"], 0, [[1], [5]])), (likeness, loose(), Book.free(["q"])),
    (likeness, book(), loose()), (switch_fields, loose(), book()), (are_fresh, loose(), RULES[1:]),
    (fresh_rules, loose(), Book.zero(["a", "b"])), (explains, loose(), [zeros(), family()]),
    (shows, loose(), zeros(), 2), (unshown_rule, loose(), zeros(), 2), (first_unshown, loose(), zeros()),
    (stretch_shows, loose(), [[0, 0], [0, 0]], 1), (liveliness, ENTRIES), (memory, book()), (memory_size, book()),
    (machine_answers, loose(), [[3, 2]], [[1, [-1, 2]], [[6, 4], 1]]), (machine_answers, loose(), [0], [[1, 0], [0, 1]]),
    (is_free, book(), ["a"]), (free_sets, loose()), (is_timely, loose(), ["a"]), (delay, loose(), ["a"], "a", "b"),
    (desk_answers, ["b", "a"], [["enter", TERMS], ["try", [["withdraw", 0]]], ["ask", TERMS], ["keep", [["enter", []]]]]),
    (format_fraction, [3, -6]), (format_polynomial, P), (format_sum, TERMS), (parse_fraction, "-2/3"),
    (parse_polynomial, "1 0, 2 3"), (parse_sum, "1 a 0, -2 b 3"), (format_book, book()), (format_family, family()),
    (least_polynomial, Family(["a"], 0, [[1]], before=[[0, 1], [1, 1]], after=[[0, 1], [1, 1]])),
]


def frozen(value_passed):
    """Return a list at any level as a tuple."""
    if isinstance(value_passed, (list, tuple)):
        return tuple(frozen(part) for part in value_passed)
    return value_passed


class GeneralTest(unittest.TestCase):
    def test_answers_are_tuples_and_the_same_again(self):
        for call, *arguments in CALLS:
            before = frozen(arguments)
            answer = call(*arguments)
            self.assertTrue(all_tuples(answer), call)
            self.assertEqual(frozen(arguments), before, call)
            self.assertEqual(call(*arguments), answer, call)
            self.assertEqual(call(*[frozen(argument) for argument in arguments]), answer, call)

    def test_true_and_false(self):
        answers = [
            divides(P, Q), can_stand(book(), WINDOW), keeps(book(), family()), obeys(family(), P),
            is_derivation(book(), [], (1, [[], []])), TERMS in book(), book() == book(), family() == family(),
            book() == 1, family() == 1, family().is_finite, despite(book(), ["a"], TERMS, liars=1).sure,
            explains(book(), []), shows(book(), zeros(), 1), stretch_shows(book(), [[0], [0]], 1), are_fresh(book(), [TERMS]),
            is_free(book(), ["a"]), is_timely(loose(), ["a"]), compare(book(), loose()).alike, Machine(loose()).at_rest,
            Machine(loose()).lets([1, 2]), attempt(Machine(loose()), WINDOW), perform(Desk(["a"]), [("ask", [])])[0],
        ]
        self.assertEqual({type(answer) for answer in answers}, {bool})

    def test_lists_and_tuples_are_alike(self):
        self.assertEqual(Book(("a", "b"), frozen(RULES)).given, book().given)
        other = Family(("a", "b"), -1, frozen(ENTRIES), before=frozen(P), after=frozen(Q[:1]))
        self.assertEqual(other.entries, family().entries)
        self.assertTrue(other == family())
        self.assertEqual(completed(book(), WINDOW), completed(book(), frozen(WINDOW)))
        self.assertEqual(
            spliced(family(), family(), 0, middle=[[[1, 2]], [3]]),
            spliced(family(), family(), 0, middle=(((1, 2),), (3,))),
        )
        self.assertEqual(family().only(["b"]), family().only(("b",)))
        self.assertEqual(family().applied(P), family().applied(frozen(P)))
        self.assertEqual(family().scaled([1, 2]), family().scaled((1, 2)))
        self.assertEqual(counterexample(book(), TERMS[:1]), counterexample(book(), frozen(TERMS[:1])))
        self.assertEqual(course(family(), TERMS), course(family(), frozen(TERMS)))

    def test_answers_hold_no_lists(self):
        for found in (family() + family(), family().moved(1), completed(book(), WINDOW), course(family(), TERMS),
                      spliced(family(), family(), 0), counterexample(book(), TERMS[:1])):
            self.assertTrue(all_tuples((found.rows, found.entries, found.before, found.after)))
            self.assertTrue(all_tuples(found.window(-2, 5)) and all_tuples(found.extent()))
        for found in (book() & book(), book() + book(), turned_book(book()), renamed_book(book(), "a", "c")):
            self.assertTrue(all_tuples((found.rows, found.given, found.rules)))
            self.assertEqual(found.given, found.rules)
            self.assertTrue(all_tuples(list(found)[0]))
        self.assertTrue(all(all_tuples(pair) for pair in breaks(Book(["a"], [[("a", 0, 1)]]), Family.pulse(["a"], "a"))))

    def test_families_and_books_that_are_returned_hold_no_lists(self):
        tank = pulses(loose())[0]
        families = [
            parting(book(), loose()), unfixed(loose(), [["a", 0]], ["b", 2]), join(loose(), zeros(), tank, gap=4).family,
            *hard_pair(loose(), 0), tank, from_pulses(loose(), [[[2, [1, 2]], [0, 3]]]),
            quietest(loose(), zeros(), tank, gap=4), family_with(loose(), [["a", 0, 1]], Family(["q"], 0, [[1, [1, 2]]])),
            *split(loose(), tank), filled(loose(), Family(["a"], 0, [[1, 2]])), *split_sum(book(), loose(), tank),
            blocked(tank, 2), unblocked(blocked(tank, 3), 3), thinned(tank, 2), refined(loose(), thinned(tank, 2), 2),
            unseen(loose(), ["a"], [["b", 0, 1]]) or tank,
        ]
        for found in families:
            self.assertTrue(all_tuples((found.rows, found.entries, found.before, found.after)))
        for found in (steerable_part(book()), shown_book(book(), ["a"]), blocked_book(loose(), 2), unseen_book(book(), ["a"]),
                      thinned_book(loose(), 2)):
            self.assertTrue(all_tuples((found.rows, found.given, found.rules)))
            self.assertEqual(found.given, found.rules)
        self.assertIsInstance(pulses(loose()), tuple)
        self.assertTrue(all_tuples(join(loose(), zeros(), tank).bar))

    def test_families_and_books_of_the_last_stages_hold_no_lists(self):
        doubt = despite(loose(), ["a", "b"], [["a", 0, 1]], liars=1)
        wrong = enforce(Book.free(["a", "b"]), Book.zero(["a"]), ["b"])
        joint, future = switched(loose(), book(), zeros(), gap=1)
        families = [
            doubt.readings, doubt.one, doubt.two, wrong.let_anyway, joint, future, family_with_memory(loose(), [[1, 2]]),
            enforce(book(), Book.free(["a"]), ["b"]).never_let, truth(loose(), Family(["a"], 0, [[1]]), [["b", 0, 1]], liars=0),
            translated(family(), ["q"], [[2, TERMS]]), parse_family(format_family(family())),
            foreseeing(Book(["a", "b"], [[("a", 1, 1), ("b", 0, 1)]]), ["a"]), response(loose(), ["a"], "a"),
        ]
        for found in families:
            self.assertTrue(all_tuples((found.rows, found.entries, found.before, found.after)))
        books = [
            *bounds(loose(), ["a"], ["b"]), enforce(loose(), Book.zero(["a"]), ["a"]).added, strictest([family()]),
            read_off(["a", "b"], ENTRIES, longest=1),
        ]
        for found in books:
            self.assertTrue(all_tuples((found.rows, found.given, found.rules)))
            self.assertEqual(found.given, found.rules)
        self.assertTrue(all_tuples(parse_book(format_book(book())).given))

    def test_lists_and_tuples_are_alike_in_the_last_stages(self):
        wish = Book.zero(["a"])
        self.assertEqual(enforce(Book.free(["a", "b"]), wish, ["b"]).let_anyway, enforce(Book.free(["a", "b"]), wish, ("b",)).let_anyway)
        self.assertEqual(bounds(loose(), ["a"], ["b"]), bounds(loose(), ("a",), ("b",)))
        self.assertEqual(strictest([family(), zeros()]), strictest((family(), zeros())))
        self.assertEqual(read_off(["a", "b"], ENTRIES, longest=1), read_off(("a", "b"), frozen(ENTRIES), longest=1))
        self.assertEqual(family_with_memory(loose(), [[1, 2]]), family_with_memory(loose(), ((1, 2),)))
        formulas = [[2, TERMS], [1, []]]
        self.assertEqual(translated(family(), ["p", "q"], formulas), translated(family(), ("p", "q"), frozen(formulas)))
        self.assertEqual(foreseeing(loose(), ["b"]), foreseeing(loose(), ("b",)))

    def test_answers_of_the_last_stages_may_be_passed_again(self):
        wide = blocked_book(Book(list("abc"), [[("a", 0, 1), ("b", 1, 2)]]), 4)
        self.assertEqual(fewest_shown(wide, [[("ax1", 0, 1)]]), ("ax1",))
        self.assertEqual((memory_size(wide), len(memory(wide))), (1, 1))
        self.assertEqual(switch(wide, Book.zero(wide.rows)).gap, 1)
        self.assertEqual(len(fresh_rules(wide, Book.zero(wide.rows))), 8)
        self.assertTrue(compare(wide, blocked_book(Book.free(["p", "q"]), 4)).alike)
        self.assertEqual(parse_book(format_book(wide)).given, wide.rules)
        p = polynomial([(20, 10 ** 9), (-20, 1)])
        for _ in range(7):
            p = poly_times(p, p)
        self.assertEqual(parse_polynomial(format_polynomial(p)), p)
        far = family().applied(p[:3]).moved(60)
        self.assertEqual(format_family(parse_family(format_family(far))), format_family(far))
        self.assertEqual(strictest([far]), strictest([far.moved(-60).moved(-60)]))
        delay_line = Book(["a", "b"], [[("a", 20, 1), ("b", -20, 1)]])
        self.assertEqual(delay(delay_line, ["b"], "b", "a"), 40)
        self.assertEqual(switch(delay_line, Book.zero(["a", "b"])).gap, 40)
        joint, _ = switched(delay_line, Book.zero(["a", "b"]), response(delay_line, ["b"], "b"), gap=40, place=1)
        self.assertEqual(joint, response(delay_line, ["b"], "b"))

    def test_lists_and_tuples_are_alike_in_what_is_built_later(self):
        spots = [["a", 0], ["b", -2], ["a", 2]]
        self.assertEqual(unfixed(book(), spots, ["b", 5]), unfixed(book(), frozen(spots), ("b", 5)))
        self.assertEqual(unseen(loose(), ["a"], TERMS), unseen(loose(), ("a",), frozen(TERMS)))
        self.assertEqual(unseen_book(loose(), ["a"]), unseen_book(loose(), ("a",)))
        self.assertEqual(shown_book(loose(), ["b"]), shown_book(loose(), ("b",)))
        parts = [[[2, [1, 2]], [0, 3]]]
        self.assertEqual(from_pulses(loose(), parts), from_pulses(loose(), frozen(parts)))
        wanted = Family(["q"], 0, [[1, 5]])
        self.assertEqual(family_with(loose(), TERMS[1:2], wanted), family_with(loose(), frozen(TERMS[1:2]), wanted))

    def test_answers_beyond_the_bounds_may_be_passed_again(self):
        rows = list("abcdef")
        wide = blocked_book(Book(rows, [[("a", 0, 1), ("b", 1, 2)]]), 2)
        self.assertEqual((len(wide.rows), len(wide)), (12, 2))
        self.assertEqual(shown_book(wide, wide.rows), wide)
        self.assertEqual(len(told_rows(wide, wide.rows[:2])), 4)
        self.assertEqual(sum(widths(wide)), sum(reaches(wide)))
        far = pulses(loose())[0].moved(60).moved(60)
        self.assertEqual(least_gap(loose(), zeros(), far), 0)
        self.assertEqual(from_pulses(loose(), pulse_parts(loose(), far)), far)
        long = count_obeying(book(), poly_times(*[[(0, -1), (40, 1)]] * 2))
        self.assertEqual(long, period_count(book(), 40))

    def test_what_was_returned_may_be_passed_again(self):
        p = polynomial([(20, 10 ** 9), (-20, 1)])
        for _ in range(3):
            p = poly_times(p, p)
        self.assertEqual((p[0][0], p[-1][0], p[-1][1]), (-160, 160, 10 ** 72))
        self.assertEqual(poly_divided(p, p), (1, ((0, 1),), ()))
        terms = sum_times(p, [("a", 20, 1)])
        self.assertEqual(reach(terms), 320)
        self.assertIn(terms, Book(["a"], [sum_times(p, [("a", 0, 1)])]))
        wide = Family(["a"], 0, [[1]]).applied(p)
        self.assertEqual(wide.extent(), (-160, 160))
        self.assertEqual(wide.moved(60).moved(60).moved(60).extent(), (20, 340))
        self.assertEqual(first_break(Book.zero(["a"]), wide.moved(30).moved(30)), (20, 0))
        big = fraction((10 ** 30, 1))
        self.assertEqual(times(times(big, big), over(1, big)), big)
        family_of_six = Family.zero(list("abcdef")).beside(Family.zero(["g"]))
        self.assertEqual(len(family_of_six.rows), 7)
        rules = window_rules(Book(["a"], [[("a", 0, 1), ("a", 1, -2)]]), 24)
        self.assertEqual(len(Book(["a"], rules).given), 23)

    def test_numbers_of_any_size(self):
        huge = 10 ** 200
        self.assertEqual(ordered([("a", 0, huge), ("a", 0, 1)]), (("a", 0, huge + 1),))
        self.assertEqual(normal_polynomial([(0, huge), (1, -huge)]), ((0, -1), (1, 1)))
        self.assertTrue(is_derivation(Book(["a"], [[("a", 0, 1)]]), [("a", 0, 1)], (huge, [[(0, huge)]])))


if __name__ == "__main__":
    unittest.main()
