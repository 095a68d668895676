import unittest

from helpers import all_tuples, raised, sources, random_sum
from joinpast.books import Book
from joinpast.desks import Desk, Trial, inside, perform
from joinpast.errors import BadName, NoRows, NotEntered, NothingToUndo, RowTwice, UnknownRow
from joinpast.sums import ordered

A = (("a", 0, 1),)
B = (("b", 0, 1),)


def desk_with(*sums):
    desk = Desk(["a", "b"])
    for terms in sums:
        desk.enter(terms)
    return desk


class DeskTest(unittest.TestCase):
    def test_interface_example(self):
        desk = Desk(["a", "b"])
        steps = [("enter", [("a", 0, 1)]), ("try", [("enter", [("b", 0, 1)]), ("ask", [("b", 3, 1)])]), ("ask", [("b", 3, 1)])]
        self.assertEqual(perform(desk, steps), (1, (2, True), False))
        self.assertEqual([len(desk), desk.standing_book.rules], [1, ((("a", 0, 1),),)])
        found = inside(Trial(desk), [("enter", [("a", 1, 1)]), ("hold",), ("enter", [("b", 0, 2)])])
        self.assertEqual([found, len(desk)], [(2, None, 3), 3])

    def test_a_new_desk(self):
        desk = Desk(["b", "a"])
        self.assertEqual((desk.rows, desk.deeds, len(desk)), (("a", "b"), (), 0))
        self.assertEqual((desk.standing_book, desk.standing_book.given), (Book.free(["a", "b"]), ()))

    def test_deeds(self):
        desk = Desk(["a", "b"])
        terms = [["b", 1, 2], ["a", 0, 1], ["b", 1, -2]]
        self.assertIsNone(desk.enter(terms))
        terms[1][2] = 7
        self.assertIsNone(desk.enter([("b", 2, 3), ("b", 2, -3)]))
        self.assertIsNone(desk.withdraw(0))
        self.assertEqual(desk.deeds, (("enter", A), ("enter", ()), ("withdraw", 0)))
        self.assertTrue(all_tuples(desk.deeds))
        self.assertIsNone(desk.undo())
        self.assertEqual((len(desk), desk.deeds), (2, (("enter", A), ("enter", ()))))

    def test_the_standing_book_keeps_the_rules_as_they_were_entered(self):
        double = (("a", 3, -2), ("b", 0, 4))
        desk = desk_with(double, A, double, ())
        self.assertEqual(desk.standing_book.given, (double, A, double, ()))
        desk.withdraw(0)
        desk.withdraw(3)
        self.assertEqual(desk.standing_book.given, (A, double))
        self.assertEqual(desk.standing_book, Book(["a", "b"], [A, B]))
        desk.enter(double)
        self.assertEqual(desk.standing_book.given, (A, double, double))

    def test_answers_do_not_change_later(self):
        desk = desk_with(A)
        deeds, book = desk.deeds, desk.standing_book
        desk.enter(B)
        self.assertEqual((deeds, book.given), ((("enter", A),), (A,)))

    def test_deeds_that_cannot_be_withdrawn(self):
        desk = desk_with(A, B)
        desk.withdraw(0)
        for index in (0, 2, 3, 10 ** 30, -1, -2, -3, -10 ** 30):
            error = raised(desk.withdraw, index)
            self.assertIsInstance(error, NotEntered)
            self.assertEqual((error.index, len(desk)), (index, 3))
        desk.withdraw(1)
        self.assertIsInstance(raised(desk.withdraw, 1), NotEntered)

    def test_a_withdrawn_deed_that_is_undone(self):
        desk = desk_with(A, B)
        desk.withdraw(0)
        desk.undo()
        self.assertEqual(desk.standing_book.given, (A, B))
        desk.withdraw(0)
        self.assertEqual(desk.standing_book.given, (B,))
        desk.undo()
        desk.undo()
        self.assertIsInstance(raised(desk.withdraw, 1), NotEntered)
        desk.undo()
        self.assertIsInstance(raised(desk.undo), NothingToUndo)
        self.assertEqual(desk.deeds, ())

    def test_errors_in_their_order(self):
        self.assertIsInstance(raised(Desk, []), NoRows)
        for rows, kind, name in ((["a", "a", "A"], BadName, "A"), (["b", "a", "a", "b"], RowTwice, "a")):
            error = raised(Desk, rows)
            self.assertIsInstance(error, kind)
            self.assertEqual(error.name, name)
        desk = desk_with(A)
        error = raised(desk.enter, [("a", 0, 1), ("z", 1, 0), ("y", 0, 1)])
        self.assertIsInstance(error, UnknownRow)
        self.assertEqual((error.name, desk.deeds), ("z", (("enter", A),)))


class TrialTest(unittest.TestCase):
    def test_a_block_is_undone(self):
        desk = desk_with(A)
        with Trial(desk):
            desk.enter(B)
            desk.withdraw(0)
            self.assertEqual(len(desk), 3)
        self.assertEqual(desk.deeds, (("enter", A),))
        with Trial(desk):
            desk.undo()
            desk.enter(B)
        self.assertEqual(desk.deeds, (("enter", A),))

    def test_a_block_is_kept(self):
        desk = desk_with(A)
        with Trial(desk) as trial:
            desk.enter(B)
            self.assertIsNone(trial.keep())
            desk.enter(())
        self.assertEqual(desk.deeds, (("enter", A), ("enter", B), ("enter", ())))

    def test_a_keep_before_the_block_and_behind_it(self):
        desk = desk_with(A)
        trial = Trial(desk)
        self.assertIsNone(trial.keep())
        with trial:
            desk.enter(B)
        self.assertIsNone(trial.keep())
        self.assertEqual(desk.deeds, (("enter", A),))
        desk.enter(B)
        self.assertIsNone(trial.keep())
        self.assertEqual(len(desk), 2)

    def test_what_stood_when_the_block_was_entered(self):
        desk = desk_with(A)
        trial = Trial(desk)
        desk.enter(B)
        with trial:
            desk.undo()
            desk.undo()
        self.assertEqual(len(desk), 2)

    def test_errors_are_not_swallowed(self):
        desk = desk_with(A)
        for kept in (False, True):
            with self.assertRaises(ZeroDivisionError):
                with Trial(desk) as trial:
                    desk.enter(B)
                    if kept:
                        trial.keep()
                    desk.enter(1 // 0)
            self.assertEqual(len(desk), 1 + kept)

    def test_nested_blocks(self):
        for inner_kept in (False, True):
            for outer_kept in (False, True):
                desk = desk_with(A)
                with Trial(desk) as outer:
                    desk.enter(B)
                    with Trial(desk) as inner:
                        desk.enter(A)
                        if inner_kept:
                            inner.keep()
                    self.assertEqual(len(desk), 2 + inner_kept)
                    if outer_kept:
                        outer.keep()
                self.assertEqual(len(desk), 2 + inner_kept if outer_kept else 1)

    def test_a_keep_of_the_outer_block_inside_of_the_inner_one(self):
        desk = desk_with()
        with Trial(desk) as outer:
            desk.enter(A)
            with Trial(desk):
                desk.enter(B)
                outer.keep()
        self.assertEqual(desk.deeds, (("enter", A),))


class PerformTest(unittest.TestCase):
    def test_steps_and_their_answers(self):
        desk = Desk(["a", "b"])
        steps = [["enter", [["a", 1, 3]]], ("ask", A), ("ask", B), ("enter", B), ("ask", ()), ("withdraw", 0), ("ask", A),
                 ("ask", [("z", 0, 1)]), ("undo",), ("ask", A)]
        self.assertEqual(perform(desk, steps), (1, True, False, 2, True, 3, False, False, 2, True))
        self.assertEqual(perform(desk, []), ())
        self.assertEqual(desk.deeds, (("enter", (("a", 1, 3),)), ("enter", B)))

    def test_steps_in_steps(self):
        desk = Desk(["a", "b"])
        steps = [("try", [("enter", A), ("keep", [("enter", B), ("ask", B), ("try", [("undo",), ("ask", B)])]), ("ask", B)]),
                 ("keep", [("enter", B), ("try", [("withdraw", 0), ("ask", B)]), ("keep", [])]), ("try", []), ("ask", B)]
        found = perform(desk, steps)
        self.assertEqual(found, ((1, (2, True, (1, False)), True), (1, (2, False), ()), (), True))
        self.assertTrue(all_tuples(found))
        self.assertEqual(desk.deeds, (("enter", B),))

    def test_errors_leave_all_blocks(self):
        for kind in ("try", "keep"):
            desk = desk_with(A)
            steps = [("enter", B), (kind, [("undo",), ("keep", [("enter", A), ("withdraw", 7)]), ("enter", A)]), ("undo",)]
            error = raised(perform, desk, steps)
            self.assertIsInstance(error, NotEntered)
            self.assertEqual((error.index, desk.deeds), (7, (("enter", A), ("enter", B))))
        desk = desk_with(A)
        error = raised(perform, desk, [("keep", [("enter", B)]), ("try", [("enter", B)]), ("enter", [("q", 0, 1)])])
        self.assertIsInstance(error, UnknownRow)
        self.assertEqual(desk.deeds, (("enter", A), ("enter", B)))
        self.assertIsInstance(raised(perform, Desk(["a"]), [("undo",)]), NothingToUndo)

    def test_what_follows_from_what_stands(self):
        for source in sources(30):
            desk = Desk(["a", "b"])
            standing = []
            for _ in range(8):
                terms = random_sum(source, ["a", "b"])
                if source.randint(0, 2) or not standing:
                    self.assertEqual(perform(desk, [("enter", terms)]), (len(desk),))
                    standing.append((len(desk) - 1, ordered(terms)))
                else:
                    index, _ = standing.pop(source.randrange(len(standing)))
                    self.assertEqual(perform(desk, [("withdraw", index)]), (len(desk),))
            self.assertEqual(desk.standing_book.given, tuple(terms for _, terms in standing))
            asked = random_sum(source, ["a", "b"])
            self.assertIs(perform(desk, [("ask", asked)])[0], asked in desk.standing_book)


class InsideTest(unittest.TestCase):
    def test_a_block_without_a_hold(self):
        desk = desk_with(A)
        found = inside(Trial(desk), [("enter", B), ("ask", B), ("keep", [("enter", A)]), ("try", [("undo",)])])
        self.assertEqual(found, (2, True, (3,), (2,)))
        self.assertEqual(desk.deeds, (("enter", A),))
        self.assertEqual(inside(Trial(desk), []), ())

    def test_a_hold(self):
        for at in range(3):
            desk = desk_with(A)
            steps = [("enter", B), ("withdraw", 0)]
            steps.insert(at, ("hold",))
            answers = [2, 3]
            answers.insert(at, None)
            self.assertEqual(inside(Trial(desk), steps), tuple(answers))
            self.assertEqual(desk.deeds, (("enter", A), ("enter", B), ("withdraw", 0)))

    def test_a_hold_followed_by_an_error(self):
        desk = desk_with(A)
        steps = [("enter", B), ("hold",), ("enter", ()), ("keep", [("enter", A), ("withdraw", 9)])]
        self.assertIsInstance(raised(inside, Trial(desk), steps), NotEntered)
        self.assertEqual(desk.deeds, (("enter", A), ("enter", B), ("enter", ())))
        desk = desk_with(A)
        self.assertIsInstance(raised(inside, Trial(desk), [("enter", B), ("withdraw", 9), ("hold",)]), NotEntered)
        self.assertEqual(desk.deeds, (("enter", A),))

    def test_a_block_inside_of_another_one(self):
        desk = desk_with(A)
        with Trial(desk):
            self.assertEqual(inside(Trial(desk), [("hold",), ("enter", B)]), (None, 2))
            self.assertEqual(len(desk), 2)
        self.assertEqual(len(desk), 1)


if __name__ == "__main__":
    unittest.main()
