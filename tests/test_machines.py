import unittest

from helpers import (
    all_tuples, equal_book, kept_family, number, random_book, random_entry, random_rows, raised, sources,
)
from joinpast.books import Book
from joinpast.completing import completed
from joinpast.courses import value
from joinpast.errors import BadParts, BadStretch, CannotStand, NotLet
from joinpast.families import Family
from joinpast.keeping import keeps
from joinpast.machines import Machine, Trying, attempt, during
from joinpast.memory import family_with_memory, memory, memory_size
from joinpast.splices import spliced

PUMP = Book(["level", "pump"], [[("level", 1, 1), ("level", 0, -1), ("pump", 0, -1)]])
FIBONACCI = Book(["x"], [[("x", 0, 1), ("x", 1, 1), ("x", 2, -1)]])


def full():
    """Return a machine that has read level 3 and pump 2, so that level 5 comes next."""
    machine = Machine(PUMP)
    machine.run([[0, 3], [3, 2]])
    return machine


class MachineTest(unittest.TestCase):
    def test_interface_example(self):
        machine = Machine(PUMP)
        lets = [machine.lets([0, 7]), machine.lets([1, 0]), attempt(machine, [[0, 2, 5], [2, 3, 0]]), machine.at_rest]
        self.assertEqual(lets, [True, False, True, True])
        self.assertEqual([len(during(Trying(machine), [[[0], [2]], [[2], [3]]])), machine.at_rest], [2, True])

    def test_fields_and_properties(self):
        machine = Machine(PUMP, [(2, -4)])
        self.assertIs(machine.book, PUMP)
        self.assertEqual((machine.remembered, machine.at_rest), (((-1, 2),), False))
        self.assertIs(Machine(PUMP).at_rest, True)
        self.assertEqual(Machine(PUMP).remembered, ((0, 1),))
        self.assertIs(Machine(PUMP, [0]).at_rest, True)

    def test_what_is_passed_is_copied(self):
        values = [[1, 2]]
        machine = Machine(PUMP, values)
        values[0][0] = 9
        values.append(4)
        self.assertEqual(machine.remembered, ((1, 2),))

    def test_books_whose_memory_is_empty(self):
        machine = Machine(Book.zero(["a", "b"]))
        self.assertEqual((machine.remembered, machine.at_rest), ((), True))
        self.assertEqual([machine.lets([0, 0]), machine.lets([0, 1]), machine.lets([(1, 2), 0])], [True, False, False])
        self.assertEqual(machine.step([0, (0, 5)]), ())
        self.assertIsInstance(raised(machine.run, [[0, 0], [0, 1]]), NotLet)
        free = Machine(Book.free(["a"]), [])
        self.assertEqual((free.run([[1, 2, 3]]), free.at_rest, free.lets([7])), ((), True, True))

    def test_steps(self):
        machine = full()
        self.assertEqual([machine.lets([5, 9]), machine.lets([4, 9])], [True, False])
        before = machine.remembered
        found = machine.step([5, 9])
        self.assertTrue(all_tuples(found))
        self.assertEqual(found, machine.remembered)
        self.assertNotEqual(found, before)
        error = raised(machine.step, [5, 9])
        self.assertIsInstance(error, NotLet)
        self.assertEqual((error.index, machine.remembered), (0, found))
        self.assertIs(machine.lets([14, (1, 3)]), True)
        machine.step(((14, 1), (1, 3)))
        self.assertEqual([machine.lets([(43, 3), 0]), machine.lets([(86, 6), 0]), machine.lets([14, 0])], [True, True, False])

    def test_a_run_that_stops_in_the_middle_of_a_window(self):
        machine = full()
        before = machine.remembered
        error = raised(machine.run, [[5, 6, 6, 6], [1, 0, 1, 0]])
        self.assertIsInstance(error, NotLet)
        self.assertEqual((error.index, machine.remembered), (3, before))
        self.assertEqual(machine.run([[5, 6, 6, 7], [1, 0, 1, 0]]), machine.remembered)
        self.assertIs(machine.lets([7, 0]), True)

    def test_windows_of_length_0(self):
        machine = full()
        self.assertEqual(machine.run([[], []]), full().remembered)
        self.assertEqual(machine.remembered, full().remembered)
        self.assertIs(attempt(machine, [[], []]), True)

    def test_errors_in_their_order(self):
        for book, values in ((PUMP, []), (PUMP, [1, 2]), (Book.zero(["a"]), [0])):
            error = raised(Machine, book, values)
            self.assertIsInstance(error, BadParts)
            self.assertEqual(error.count, len(values))
        machine = full()
        for call in (machine.lets, machine.step):
            for column in ([], [5], [5, 1, 2], [9]):
                error = raised(call, column)
                self.assertIsInstance(error, BadStretch)
                self.assertEqual(error.count, len(column))
        for call in (machine.run, lambda window: attempt(machine, window), lambda window: during(Trying(machine), [window])):
            for window, count in (([[5]], 1), ([[9], [1], [2]], 3), ([[9, 9], [1]], 1), ([], 0), ([[], [1]], 1)):
                error = raised(call, window)
                self.assertIsInstance(error, BadStretch)
                self.assertEqual(error.count, count)
        self.assertEqual(machine.remembered, full().remembered)

    def test_machines_remember_the_memory_of_what_they_read(self):
        for source in sources(80):
            book = random_book(source, random_rows(source, 3))
            family = kept_family(source, book)
            place = source.randint(-5, 5)
            values = [value(family, terms, place) for terms in memory(book)]
            machine = Machine(equal_book(source, book), values)
            for at in range(place, place + 5):
                self.assertEqual(machine.remembered, tuple(value(family, terms, at) for terms in memory(book)))
                self.assertIs(machine.at_rest, not any(number(each) for each in machine.remembered))
                column = [entries[0] for entries in family.window(at, 1)]
                self.assertTrue(machine.lets(column))
                machine.step(column)
            whole = Machine(book, values)
            self.assertEqual(whole.run(family.window(place, 5)), machine.remembered)

    def test_what_is_let_goes_on_and_nothing_else(self):
        counts = [0, 0]
        for source in sources(100):
            book = random_book(source, random_rows(source, 3))
            past = family_with_memory(book, [random_entry(source) for _ in range(memory_size(book))])
            machine = Machine(book, [value(past, terms, 0) for terms in memory(book)])
            future = past + kept_family(source, book)
            column = [entries[0] for entries in (past if source.randint(0, 1) else future).window(0, 1)]
            reach = 6
            left = past.window(-reach, reach)
            window = [list(known) + [entry] for known, entry in zip(left, column)]
            expected = self.stands(book, window)
            self.assertIs(machine.lets(column), expected)
            counts[expected] += 1
            if expected:
                whole = completed(book, window, place=-reach)
                self.assertTrue(keeps(book, spliced(past, whole, 0)))
                machine.step(column)
                self.assertEqual(machine.remembered, tuple(value(whole, terms, 1) for terms in memory(book)))
        self.assertTrue(min(counts) > 15, counts)

    def stands(self, book, window):
        return not isinstance(raised(completed, book, window), CannotStand)


class TryingTest(unittest.TestCase):
    def test_what_was_remembered_comes_back(self):
        machine = full()
        before = machine.remembered
        trying = Trying(machine)
        self.assertIs(trying.machine, machine)
        machine.step([5, 1])
        changed = machine.remembered
        with trying as entered:
            self.assertIs(entered.machine, machine)
            machine.run([[6, 6], [0, 4]])
            self.assertNotEqual(machine.remembered, changed)
        self.assertEqual(machine.remembered, changed)
        self.assertNotEqual(before, changed)

    def test_errors_are_not_swallowed(self):
        for kind in (KeyError, NotLet):
            machine = full()
            with self.assertRaises(kind):
                with Trying(machine):
                    machine.step([5, 7])
                    if kind is KeyError:
                        raise KeyError("a")
                    machine.step([5, 7])
            self.assertEqual(machine.remembered, full().remembered)

    def test_nested_blocks(self):
        machine = full()
        with Trying(machine) as outer:
            machine.step([5, 1])
            inner_start = machine.remembered
            with Trying(outer.machine):
                machine.step([6, 1])
                with self.assertRaises(ValueError):
                    with Trying(machine):
                        machine.step([7, 4])
                        machine.step([7, 4])
                self.assertIs(machine.lets([7, 0]), True)
            self.assertEqual(machine.remembered, inner_start)
        self.assertEqual(machine.remembered, full().remembered)

    def test_attempts_change_nothing(self):
        machine = full()
        self.assertIs(attempt(machine, [[5, 6], [1, 0]]), True)
        self.assertIs(attempt(machine, [[5, 7], [1, 0]]), False)
        self.assertIs(attempt(machine, [[4, 4], [0, 0]]), False)
        self.assertEqual(machine.remembered, full().remembered)

    def test_during(self):
        machine = full()
        other = full()
        windows = [[[5], [1]], [[], []], [[6, 6], [0, 2]]]
        expected = tuple(other.run(window) for window in windows)
        found = during(Trying(machine), windows)
        self.assertTrue(all_tuples(found))
        self.assertEqual(found, expected)
        self.assertEqual(machine.remembered, full().remembered)
        self.assertEqual(during(Trying(machine), []), ())
        error = raised(during, Trying(machine), (([5], [1]), ([6, 7], [0, 0])))
        self.assertIsInstance(error, NotLet)
        self.assertEqual((error.index, machine.remembered), (1, full().remembered))

    def test_during_in_an_open_block(self):
        machine = full()
        with Trying(machine):
            machine.step([5, 0])
            self.assertEqual(len(during(Trying(machine), [[[5, 5], [0, 0]]])), 1)
            self.assertIs(machine.lets([5, 3]), True)
            machine.step([5, 3])
        self.assertEqual(machine.remembered, full().remembered)

    def test_the_very_machine_is_used(self):
        machine = Machine(FIBONACCI)
        self.assertIs(machine.lets([1]), False)
        other = Machine(FIBONACCI, family_memory())
        self.assertEqual(other.run([[1, 2, 3, 5]]), Machine(FIBONACCI, family_memory(4)).remembered)


def family_memory(place=0):
    """Return the memory of the family 1, 2, 3, 5, 8 .. at a place."""
    p = [(0, 1), (1, 1), (2, -1)]
    family = Family(["x"], 0, [[1, 2]], before=p, after=p)
    return [value(family, terms, place) for terms in memory(FIBONACCI)]


if __name__ == "__main__":
    unittest.main()
