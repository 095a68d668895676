import unittest

from helpers import all_tuples, random_family, random_rows, raised, sources
from joinpast.errors import BadNotation
from joinpast.families import Family
from joinpast.familynotes import format_family, parse_family

TEXT = "rows a b\nfirst -1\nbefore 1 0\nafter -1 0, 1 1\na 3 4\nb 0 1/2\n"


def fields(family):
    return (family.rows, family.first, family.entries, family.before, family.after)


def changed(line, text):
    """Return the text in which one line is another one."""
    lines = TEXT.split("\n")
    lines[line] = text
    return "\n".join(lines)


class FamilynotesTest(unittest.TestCase):
    def test_interface_example(self):
        family = Family(["b", "a"], -1, [[0, (1, 2)], [3, 4]], after=[(1, 1), (2, -1)])
        self.assertEqual(format_family(family), TEXT)
        found = parse_family(TEXT)
        self.assertEqual(fields(found), fields(family))
        self.assertTrue(all_tuples(fields(found)))

    def test_empty_stretches(self):
        self.assertEqual(format_family(Family.zero(["a", "b"])), "rows a b\nfirst 0\nbefore 1 0\nafter 1 0\na\nb\n")
        found = parse_family("rows a\nfirst 7\nbefore 1 0\nafter 1 0\na\n")
        self.assertEqual(fields(found), (("a",), 7, ((),), ((0, 1),), ((0, 1),)))

    def test_lines_of_a_wrong_form(self):
        wrong = {
            0: ["", "rows", "rows b a", "rows a a", "rows a b ", "row a b", "rows A b", "rows a  b"],
            1: ["", "first", "first ", "first -0", "first 01", "first +1", "first 1/2", "first  1", "first 1 ", "First 1", "before 1 0"],
            2: ["", "before", "before 0", "before 2 0", "before 1 1", "before -1 0", "before 1 0, -1 1", "before 2 0, 4 1", "before 1 -1, 1 0",
                "before 1 1, 1 0", "after 1 0", "before 1 0 ", "before 0 0"],
            3: ["", "after", "after 0", "after 3 0", "after 1 0, -1 1", "before 1 0", "after 1 1, 2 2", "after x"],
            4: ["", "a 3 4 ", "a  3 4", "b 3 4", "a 3 04", "a 3 2/4", "a 3 +4", "a 3 x", "a", "aa 3 4", " a 3 4", "a 3,4"],
            5: ["", "b", "b 0", "b 0 1/2 3", "a 0 1/2", "c 0 1/2", "b 0 1/2 ", "b 0 -0", "b 0 1/1"],
            6: [" ", "c 1 2", "b 0 1/2", "x"],
        }
        for line, texts in wrong.items():
            for text in texts:
                error = raised(parse_family, changed(line, text))
                self.assertIsInstance(error, BadNotation, text)
                self.assertEqual(error.line, line, text)

    def test_entry_lines_that_are_too_short_for_the_polynomials(self):
        head = "rows a\nfirst 0\n"
        for before, after, entries, good in (
            ("1 0, 1 2", "1 0", "a 1", False), ("1 0, 1 2", "1 0", "a 1 2", True), ("1 0", "1 0, 2 3", "a 1 2", False),
            ("1 0, 1 1", "1 0, 2 3", "a 1 2 3", True), ("1 0, 1 1", "1 0", "a", False), ("1 0", "1 0", "a", True),
        ):
            text = head + "before " + before + "\nafter " + after + "\n" + entries + "\n"
            error = raised(parse_family, text)
            self.assertEqual(None if good else 4, None if error is None else error.line)
            if good:
                self.assertEqual(format_family(parse_family(text)), text)

    def test_lines_that_are_missing_or_too_many(self):
        lines = TEXT.split("\n")[:-1]
        for count in range(len(lines)):
            whole = "".join(line + "\n" for line in lines[:count])
            error = raised(parse_family, whole)
            self.assertIsInstance(error, BadNotation)
            self.assertEqual(error.line, count)
            error = raised(parse_family, whole + lines[count])
            self.assertIsInstance(error, BadNotation)
            self.assertEqual(error.line, count)
        for more in ("\n", "b 0 1/2\n", "x", "\n\n", " \n"):
            error = raised(parse_family, TEXT + more)
            self.assertIsInstance(error, BadNotation)
            self.assertEqual(error.line, 6)

    def test_the_first_wrong_line_counts(self):
        self.assertEqual(raised(parse_family, changed(1, "first x") + "more\n").line, 1)
        self.assertEqual(raised(parse_family, TEXT[:-1].replace("a 3 4", "a 3")).line, 5)
        self.assertEqual(raised(parse_family, TEXT[:-1].replace("a 3 4", "a 3/0 4")).line, 4)
        self.assertEqual(raised(parse_family, TEXT[:-1].replace("after -1 0, 1 1", "after -1 0, 1 3")).line, 4)

    def test_what_is_written_is_read(self):
        for source in sources(80):
            family = random_family(source, random_rows(source, 4))
            if source.randint(0, 1):
                family = family + random_family(source, list(family.rows)).moved(source.randint(-40, 40))
            self.assertEqual(fields(parse_family(format_family(family))), fields(family))


if __name__ == "__main__":
    unittest.main()
