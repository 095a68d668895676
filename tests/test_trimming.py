import unittest

from helpers import kept_family, random_book, random_end, random_family, random_rows, same, sources
from joinpast.families import Family
from joinpast.hiding import filled, shown_book
from joinpast.joins import join
from joinpast.ownrules import family_with, own_rule
from joinpast.polynomials import poly_times, span
from joinpast.steering import split
from joinpast.sumsplits import split_sum
from joinpast.thinning import refined, thinned_book
from joinpast.trimming import trimmed

SAME = ((0, -1), (1, 1))


def fields(family):
    return family.rows, family.first, family.entries, family.before, family.after


def rewritten(source, family):
    """Return an equal family with a longer stretch and longer polynomials."""
    before = poly_times(family.before, random_end(source, 2))
    after = poly_times(family.after, random_end(source, 2))
    first = family.first - source.randint(3, 5)
    length = len(family.entries[0]) + span(before) + span(after) + source.randint(8, 12)
    return Family(family.rows, first, family.window(first, length), before=before, after=after)


class TrimmingTest(unittest.TestCase):
    def test_known_families(self):
        self.assertEqual(fields(trimmed(Family.zero(["a"]).moved(7))), (("a",), 0, ((),), ((0, 1),), ((0, 1),)))
        five = Family(["a"], 9, [[5, 5]], before=[(0, -1), (2, 1)], after=[(0, 1), (1, -2), (2, 1)])
        self.assertEqual(fields(trimmed(five)), (("a",), 0, (((5, 1),),), SAME, SAME))
        pulse = Family(["a"], -3, [[0, 0, 4, 0, 0]], after=SAME)
        self.assertEqual(fields(trimmed(pulse)), (("a",), -1, (((4, 1),),), ((0, 1),), ((0, 1),)))
        step = Family(["a"], -3, [[0, 0, 1, 1, 1]], before=SAME, after=SAME)
        self.assertEqual(fields(trimmed(step)), (("a",), -1, (((1, 1),),), ((0, 1),), SAME))
        bend = Family(["a"], 2, [[1, 2]], before=SAME, after=[(0, 1), (1, -2), (2, 1)])
        self.assertEqual(trimmed(bend), bend)

    def test_equal_families_are_written_alike(self):
        for source in sources(200):
            family = random_family(source, random_rows(source, 3))
            other = rewritten(source, family)
            self.assertTrue(family == other)
            found = trimmed(family)
            self.assertTrue(found == family)
            self.assertEqual(fields(found), fields(trimmed(other)))
            self.assertEqual(fields(found), fields(trimmed(found)))

    def test_answers_do_not_depend_on_the_stretch(self):
        for source in sources(60):
            rows = random_rows(source, 3)
            book, two = random_book(source, rows), random_book(source, rows)
            family = kept_family(source, book)
            other = rewritten(source, family)
            self.assertTrue(same(split(book, family), split(book, other)))
            self.assertTrue(same(split_sum(book, two, family), split_sum(book, two, other)))
            named = source.sample(rows, source.randint(1, len(rows)))
            self.assertEqual(filled(book, family.only(named)), filled(book, other.only(named)))
            terms = [(rows[-1], 0, 1), (rows[0], 1, 2)]
            if own_rule(book, terms) == ():
                course = random_family(source, ["c"])
                self.assertEqual(family_with(book, terms, course), family_with(book, terms, rewritten(source, course)))
            thin = kept_family(source, thinned_book(book, 2))
            self.assertEqual(refined(book, thin, 2), refined(book, rewritten(source, thin), 2))
            self.assertEqual(filled(shown_book(book, rows), family), family)
            past = kept_family(source, book)
            one, again = join(book, past, family, gap=2), join(book, rewritten(source, past), other, gap=2)
            self.assertTrue(one.bar == again.bar and same(one.family, again.family))


if __name__ == "__main__":
    unittest.main()
