"""The form of the code: rules of the language that can be read off the files."""

import ast
import builtins
import pathlib
import unittest

PACKAGE = pathlib.Path(__file__).resolve().parent.parent / "joinpast"
FILES = sorted(PACKAGE.glob("*.py"))
LIBRARY = {"math": {"gcd", "lcm", "isqrt", "comb", "perm", "factorial"}}
BUILTINS = set(
    "len range enumerate zip min max sum abs sorted reversed int str bool list tuple dict set isinstance "
    "ord repr any all divmod iter next ValueError NotImplemented property classmethod".split()
)
METHODS = set(
    "append clear copy count endswith extend find get index insert isalnum isalpha isdigit islower isspace "
    "isupper items join keys ljust lower lstrip partition pop remove replace reverse rfind rjust rpartition "
    "rsplit rstrip setdefault split splitlines startswith strip update upper values zfill bit_length "
    "add discard".split()
)
DUNDERS = set(
    "__init__ __eq__ __len__ __iter__ __call__ __contains__ __add__ __sub__ __mul__ __rmul__ __and__ __neg__ "
    "__enter__ __exit__ __repr__ __str__".split()
)
BARRED_NODES = (
    ast.AsyncFor, ast.AsyncFunctionDef, ast.AsyncWith, ast.Await, ast.Div, ast.GeneratorExp, ast.Global,
    ast.Lambda, ast.MatMult, ast.NamedExpr, ast.Nonlocal, ast.Try, ast.YieldFrom,
)
BARRED_NAMES = {"register", "mro", "elements", "open", "input", "law", "version_info"}
INTERFACE = {
    "ratios": "fraction plus times over",
    "polynomials": "polynomial normal_polynomial span poly_plus poly_times poly_divided divides",
    "divisors": "common common_parts least_multiple",
    "rowsets": "is_row_name row_set",
    "sums": "ordered sum_plus sum_times moved_sum part_of rows_of reach normal_rule",
    "books": "Book",
    "families": "Family",
    "courses": "value course",
    "keeping": "keeps breaks first_break",
    "splices": "spliced",
    "selfgoing": "obeys least_polynomial",
    "shortest": "shortest reaches",
    "turning": "turned_book renamed_book",
    "windows": "window_rules can_stand window_break window_freedom",
    "completing": "completed",
    "following": "derivation is_derivation counterexample",
    "comparing": "within parting",
    "spots": "fixing unfixed free_spots",
    "partings": "parting_window",
    "joins": "Joining join is_bar",
    "gaps": "least_gap is_steerable universal_gap hard_pair",
    "pulses": "pulses widths",
    "pulseparts": "pulse_parts from_pulses",
    "quietest": "quietest",
    "ownrules": "own_rule family_with",
    "steering": "steerable_part split",
    "tables": "table count_obeying period_count",
    "unchangeables": "unchangeables unchangeable_parts",
    "hiding": "shown_book filled",
    "sumsplits": "split_sum",
    "blocks": "blocked unblocked blocked_book",
    "thinning": "thinned thinned_book refined",
    "seeing": "formula unseen told_rows unseen_book",
    "looking": "look",
    "fewest": "fewest_shown",
    "despites": "Despite despite",
    "truths": "suspects truth",
    "enforcing": "bounds Enforcement enforce",
    "switching": "Switch switch switched",
    "fresh": "are_fresh fresh_rules",
    "explaining": "explains strictest",
    "showing": "shows unshown_rule first_unshown",
    "stretches": "read_off stretch_shows liveliness",
    "memory": "memory memory_size family_with_memory",
    "machines": "Machine Trying attempt during",
    "freerows": "is_free free_sets",
    "timely": "is_timely foreseeing response delay",
    "alike": "translated Likeness compare",
    "desks": "Desk Trial perform inside",
    "sumnotes": "format_fraction parse_fraction format_polynomial parse_polynomial format_sum parse_sum",
    "booknotes": "format_book parse_book",
    "familynotes": "format_family parse_family",
}
CLASS_METHODS = {
    "Joining": "__init__",
    "Despite": "__init__",
    "Enforcement": "__init__",
    "Switch": "__init__",
    "Likeness": "__init__",
    "Machine": "__init__ remembered at_rest lets step run",
    "Trying": "__init__ __enter__ __exit__",
    "Desk": "__init__ deeds standing_book __len__ enter withdraw undo",
    "Trial": "__init__ __enter__ __exit__ keep",
    "Book": "__init__ __and__ __add__ __contains__ __eq__ __len__ __iter__ free_count free zero",
    "Family": "__init__ entry window __call__ __add__ __sub__ __neg__ __mul__ __rmul__ __eq__ moved turned only "
              "beside renamed scaled applied zero pulse is_finite extent",
}


OPERATORS = set(
    "__add__ __sub__ __mul__ __rmul__ __and__ __neg__ __contains__ __eq__ __len__ __repr__ __str__".split()
)
CHANGES = set("append clear extend insert pop remove reverse setdefault update add discard sort".split())


def tree_of(path):
    return ast.parse(path.read_text(encoding="ascii"))


def functions_of(tree):
    return [node for node in ast.walk(tree) if isinstance(node, ast.FunctionDef)]


def bound_names(tree):
    """Return all names that parameters, assignments and loops bind in functions."""
    found = set()
    for function in functions_of(tree):
        for node in ast.walk(function):
            if isinstance(node, ast.arg):
                found.add(node.arg)
            if isinstance(node, ast.Name) and isinstance(node.ctx, ast.Store):
                found.add(node.id)
    return found


def run_by_operators():
    """Return all functions that an operator or a property runs, also through others.

    A call by a name may mean each function or class of this name, and a call
    of a method each method of this name.
    """
    functions, classes, waiting = {}, {}, []
    for path in FILES:
        for node in tree_of(path).body:
            if isinstance(node, ast.FunctionDef):
                functions.setdefault(node.name, []).append(node)
            if isinstance(node, ast.ClassDef):
                methods = [item for item in node.body if isinstance(item, ast.FunctionDef)]
                classes[node.name] = [item for item in methods if item.name == "__init__"]
                for item in methods:
                    functions.setdefault("." + item.name, []).append(item)
                    decorators = [decorator.id for decorator in item.decorator_list]
                    if item.name in OPERATORS or "property" in decorators:
                        waiting.append(item)
    found = []
    while waiting:
        function = waiting.pop()
        if function in found:
            continue
        found.append(function)
        for node in ast.walk(function):
            if isinstance(node, ast.Call) and isinstance(node.func, ast.Name):
                waiting.extend(functions.get(node.func.id, []) + classes.get(node.func.id, []))
            if isinstance(node, ast.Call) and isinstance(node.func, ast.Attribute):
                waiting.extend(functions.get("." + node.func.attr, []))
    return found


def created_names(function):
    """Return the local names that are only assigned values that the function creates."""
    created, other = set(), {argument.arg for argument in ast.walk(function) if isinstance(argument, ast.arg)}
    for node in ast.walk(function):
        if isinstance(node, ast.Assign) and isinstance(node.targets[0], ast.Name):
            (created if creates(node.value) else other).add(node.targets[0].id)
        elif isinstance(node, (ast.For, ast.comprehension, ast.Assign)):
            targets = node.targets if isinstance(node, ast.Assign) else [node.target]
            other |= {name.id for target in targets for name in ast.walk(target) if isinstance(name, ast.Name)
                      and isinstance(name.ctx, ast.Store)}
    return created - other


def creates(value):
    if isinstance(value, ast.BinOp) and isinstance(value.op, ast.Add):
        return creates(value.left) or creates(value.right)
    if isinstance(value, ast.Call) and isinstance(value.func, ast.Name):
        return value.func.id in ("list", "dict", "set", "sorted")
    if isinstance(value, ast.Subscript):
        return isinstance(value.slice, ast.Slice)
    return isinstance(value, (ast.List, ast.Dict, ast.Set, ast.ListComp, ast.DictComp, ast.SetComp))


def imported_names(tree):
    return {name.name for node in tree.body if isinstance(node, ast.ImportFrom) for name in node.names}


class LanguageTest(unittest.TestCase):
    def test_the_package_holds_plain_files_only(self):
        for path in PACKAGE.iterdir():
            if path.name != "__pycache__":
                self.assertRegex(path.name, r"^[a-z_][a-z0-9_]*\.py$")

    def test_sizes_and_characters(self):
        for path in FILES:
            text = path.read_text(encoding="ascii")
            lines = text.split("\n")
            self.assertLessEqual(len(lines), 399, path)
            for line in lines:
                self.assertLessEqual(len(line), 120, path)
            self.assertNotIn("\t", text)
            self.assertTrue(set(text) <= set("\n" + "".join(map(chr, range(32, 127)))), path)
            for function in functions_of(tree_of(path)):
                self.assertLessEqual(function.end_lineno - function.lineno + 1, 40, function.name)

    def test_imports_name_the_defining_file_and_form_no_circle(self):
        imports = {}
        for path in FILES:
            imports[path.stem] = []
            for node in ast.walk(tree_of(path)):
                self.assertNotIsInstance(node, ast.Import)
                if not isinstance(node, ast.ImportFrom):
                    continue
                if node.module in LIBRARY:
                    self.assertTrue({name.name for name in node.names} <= LIBRARY[node.module])
                    continue
                self.assertTrue(node.module.startswith("joinpast."), node.module)
                module = node.module.split(".")[1]
                imports[path.stem].append(module)
                defined = self.defined_in(tree_of(PACKAGE / (module + ".py")))
                for name in node.names:
                    self.assertIsNone(name.asname)
                    self.assertIn(name.name, defined, path)
        done = set()
        while imports:
            ready = [name for name in imports if set(imports[name]) <= done]
            self.assertTrue(ready, imports)
            for name in ready:
                done.add(name)
                del imports[name]

    def defined_in(self, tree):
        found = set()
        for node in tree.body:
            if isinstance(node, (ast.FunctionDef, ast.ClassDef)):
                found.add(node.name)
            if isinstance(node, ast.Assign):
                found.add(node.targets[0].id)
        return found

    def test_every_import_is_used(self):
        for path in FILES:
            tree = tree_of(path)
            used = {node.id for node in ast.walk(tree) if isinstance(node, ast.Name)}
            self.assertTrue(imported_names(tree) <= used, (path, imported_names(tree) - used))

    def test_no_local_name_hides_an_import_a_class_or_a_builtin(self):
        for path in FILES:
            tree = tree_of(path)
            classes = {node.name for node in tree.body if isinstance(node, ast.ClassDef)}
            bound = bound_names(tree) | self.defined_in(tree)
            self.assertFalse(bound_names(tree) & (imported_names(tree) | classes), path)
            self.assertFalse({name for name in bound if hasattr(builtins, name)}, path)
            self.assertFalse(bound & BARRED_NAMES, path)

    def test_no_local_name_is_called_like_a_function_beside_it(self):
        for path in FILES:
            tree = tree_of(path)
            beside = {node.name for node in tree.body if isinstance(node, ast.FunctionDef)}
            self.assertFalse(bound_names(tree) & beside, path)

    def test_barred_statements_and_expressions(self):
        for path in FILES:
            for node in ast.walk(tree_of(path)):
                self.assertNotIsInstance(node, BARRED_NODES, path)
                if isinstance(node, ast.Constant):
                    self.assertNotIsInstance(node.value, (float, complex, bytes))
                if isinstance(node, ast.AugAssign):
                    self.assertIsInstance(node.value, ast.Constant, path)
                if isinstance(node, ast.Compare) and any(isinstance(op, (ast.Is, ast.IsNot)) for op in node.ops):
                    self.assertIsInstance(node.comparators[0], ast.Constant, path)

    def test_builtins_and_methods(self):
        own = set()
        for path in FILES:
            own |= {function.name for function in functions_of(tree_of(path))}
        for path in FILES:
            tree = tree_of(path)
            known = bound_names(tree) | self.defined_in(tree) | imported_names(tree)
            for node in ast.walk(tree):
                if isinstance(node, ast.Name) and node.id not in known:
                    self.assertIn(node.id, BUILTINS, path)
                if isinstance(node, ast.Call) and isinstance(node.func, ast.Attribute):
                    self.assertIn(node.func.attr, METHODS | own, path)
            for function in functions_of(tree):
                if function.name.startswith("__"):
                    self.assertIn(function.name, DUNDERS)
                for decorator in function.decorator_list:
                    self.assertIn(decorator.id, ("classmethod", "property"))

    def test_stars_stand_before_names_only(self):
        for path in FILES:
            for node in ast.walk(tree_of(path)):
                if isinstance(node, ast.Call):
                    for argument in node.args:
                        if isinstance(argument, ast.Starred):
                            self.assertIsInstance(argument.value, ast.Name, path)

    def test_operators_and_properties_call_nothing_that_may_be_held(self):
        attributes = {
            node.attr for path in FILES for node in ast.walk(tree_of(path))
            if isinstance(node, ast.Attribute) and isinstance(node.ctx, ast.Store)
        }
        self.assertTrue({"index", "count", "rows"} <= attributes)
        run = run_by_operators()
        names = {function.name for function in run}
        self.assertTrue({"least_book", "shortened", "eased", "echelon", "row_set", "least_multiple"} <= names)
        for function in run:
            parameters = {argument.arg for argument in ast.walk(function) if isinstance(argument, ast.arg)}
            for node in ast.walk(function):
                if isinstance(node, ast.Call) and isinstance(node.func, ast.Attribute):
                    self.assertNotIn(node.func.attr, attributes, function.name)
                if isinstance(node, ast.Call) and isinstance(node.func, ast.Name) and node.func.id != "cls":
                    self.assertNotIn(node.func.id, parameters, function.name)

    def test_operators_and_properties_change_only_what_they_created(self):
        for function in run_by_operators():
            created = created_names(function)
            for node in ast.walk(function):
                if isinstance(node, (ast.Subscript, ast.Attribute)) and not isinstance(node.ctx, ast.Load):
                    self.assertIsInstance(node.value, ast.Name)
                    allowed = created | ({"self"} if function.name == "__init__" else set())
                    self.assertIn(node.value.id, allowed, function.name)
                if isinstance(node, ast.Call) and isinstance(node.func, ast.Attribute) and node.func.attr in CHANGES:
                    self.assertIn(node.func.value.id, created, function.name)

    def test_blocks_end_with_plain_assignments(self):
        exits = [function for path in FILES for function in functions_of(tree_of(path)) if function.name == "__exit__"]
        self.assertEqual(len(exits), 2)
        for function in exits:
            self.assertEqual([argument.arg for argument in function.args.args], ["self", "kind", "value", "trace"])
            for node in ast.walk(function):
                self.assertNotIsInstance(node, (ast.Call, ast.Subscript, ast.Return, ast.BinOp, ast.AugAssign))
                if isinstance(node, ast.If):
                    self.assertIsInstance(node.test.ops[0], (ast.Is, ast.IsNot))
                if isinstance(node, ast.Name) and isinstance(node.ctx, ast.Load):
                    self.assertNotIn(node.id, ("kind", "value", "trace"))

    def test_no_name_is_a_method_in_one_class_and_an_attribute_in_another(self):
        methods = {
            item.name for path in FILES for node in tree_of(path).body if isinstance(node, ast.ClassDef)
            for item in node.body if isinstance(item, ast.FunctionDef)
        }
        attributes = {
            node.attr for path in FILES for node in ast.walk(tree_of(path))
            if isinstance(node, ast.Attribute) and isinstance(node.ctx, ast.Store)
        }
        self.assertFalse(methods & attributes)

    def test_the_interface_is_defined_in_its_files(self):
        for module, names in INTERFACE.items():
            tree = tree_of(PACKAGE / (module + ".py"))
            defined = {node.name for node in tree.body if isinstance(node, (ast.FunctionDef, ast.ClassDef))}
            self.assertTrue(set(names.split()) <= defined, module)
            for node in tree.body:
                if isinstance(node, ast.ClassDef):
                    methods = {item.name for item in node.body if isinstance(item, ast.FunctionDef)}
                    self.assertTrue(set(CLASS_METHODS[node.name].split()) <= methods, node.name)


if __name__ == "__main__":
    unittest.main()
