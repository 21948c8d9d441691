"""The files of the package: what they define and import, and how long they are; and the examples of README.md."""

import ast
import doctest
import pathlib
import unittest

TOP = pathlib.Path(__file__).resolve().parent.parent
FILES = sorted((TOP / "packedlanes").rglob("*.py"))
METHODS = {
    "rows.py": {"Row": "__init__ size entry __add__ __sub__ __mul__ __floordiv__ __mod__ __eq__ times power up down "
                       "low at carry"},
    "packs.py": {"Pack": "__init__ __add__ __sub__ __mul__ __eq__ times up down over rest digits balanced plain_row "
                         "balanced_row"},
    "boxes.py": {"Box": "__init__ amount has",
                 "Form": "__init__ __add__ __sub__ __eq__ times at lowest_point highest_point ends agrees"},
    "products.py": {"ProductWidth": "__init__", "CutEnds": "__init__"},
    "codes.py": {"Code": "__init__ __eq__ all_names places lanes_of"},
    "texts.py": {},
    "runs.py": {"Meaning": "__init__", "Run": "__init__"},
    "wrap.py": {"WrapLanes": "__init__ of digits __len__ __getitem__ __setitem__ __contains__ __eq__ __add__ __sub__ "
                             "__mul__ __rmul__ __and__ __or__ __xor__ __neg__ __invert__ __lshift__ __rshift__ below "
                             "least greatest distance average saturated chosen zeros ones turned total halves"},
    "desks.py": {"Bench": "__init__ put mix over rest widen undo redo all_names row_of number_of shown shown_balanced "
                          "apart carry hidden least_width"},
    "places.py": {},
    "checking.py": {"Spill": "__init__ __eq__"},
    "widths.py": {"Widths": "__init__ has", "Least": "__init__"},
    "rounds.py": {},
    "alike.py": {"Unlike": "__init__"},
}
FUNCTIONS = {"rows.py": ["same_widths"], "packs.py": ["packed"], "boxes.py": [],
             "products.py": ["lane_ends", "least_width", "balanced_width", "cut_ends", "power_ends"], "codes.py": [],
             "texts.py": ["written", "read_code"], "runs.py": ["meaning", "run", "spilled"], "wrap.py": [],
             "desks.py": [], "places.py": ["given_of", "box_of"], "checking.py": ["clean"],
             "widths.py": ["serves", "least"], "rounds.py": ["with_rounds", "stretch"], "alike.py": ["alike"]}
LIBRARY = ("heapq", "math", "itertools", "collections")
CHANGING = ("append", "clear", "extend", "insert", "pop", "remove", "reverse", "sort")


def tree_of(path):
    return ast.parse(path.read_text(encoding="utf-8"))


def parts_of(tree, kind):
    return [part for part in ast.walk(tree) if isinstance(part, kind)]


def names_changed(function):
    """The names of the lists of which the function gives an item or calls a method that changes them."""
    given = [part.value for part in parts_of(function, ast.Subscript) if not isinstance(part.ctx, ast.Load)]
    called = [part.func for part in parts_of(function, ast.Call) if isinstance(part.func, ast.Attribute)]
    given += [part.value for part in called if part.attr in CHANGING]
    return {part.id for part in given if isinstance(part, ast.Name)}


def names_multiplied(function):
    """The names that the function assigns a list or a tuple multiplied by a number."""
    found = [part for part in parts_of(function, ast.Assign) if isinstance(part.value, ast.BinOp)
             and isinstance(part.value.op, ast.Mult)
             and isinstance(part.value.left, (ast.List, ast.Tuple, ast.ListComp))]
    return {target.id for part in found for target in part.targets if isinstance(target, ast.Name)}


def functions_of(trees):
    """All functions and methods of the files, in lists by their names; a class has the name of its __init__, too."""
    found = {}
    for tree in trees:
        for part in parts_of(tree, ast.FunctionDef):
            found.setdefault(part.name, []).append(part)
        for kind in parts_of(tree, ast.ClassDef):
            made = [part for part in kind.body if isinstance(part, ast.FunctionDef) and part.name == "__init__"]
            found.setdefault(kind.name, []).extend(made)
    return found


def is_operator(function):
    """Whether it is an operator that changes nothing, an __eq__, a __len__ and the like, or a property."""
    if any(isinstance(mark, ast.Name) and mark.id == "property" for mark in function.decorator_list):
        return True
    return function.name[:2] == "__" and function.name not in ("__init__", "__iter__", "__setitem__")


def reached_by_operators(functions):
    """The names of what operators call, through what it calls, too, whichever of its functions is meant."""
    ahead = [part for parts in functions.values() for part in parts if is_operator(part)]
    reached = []
    while ahead:
        for call in parts_of(ahead.pop(), ast.Call):
            name = getattr(call.func, "id", getattr(call.func, "attr", None))
            # The errors call the __init__ of Python's own error, which stands above them all.
            if name in functions and name not in [*reached, "__init__"]:
                reached.append(name)
                ahead.extend(functions[name])
    return reached


def is_new(worth):
    """Whether the expression surely creates a list or a dict."""
    if isinstance(worth, ast.Call):
        return isinstance(worth.func, ast.Name) and worth.func.id in ("list", "dict", "sorted")
    return isinstance(worth, (ast.List, ast.ListComp, ast.Dict, ast.DictComp))


def names_created(function):
    """The names of the function that are never given anything but a new list or dict."""
    given = [part.id for part in parts_of(function, ast.Name) if isinstance(part.ctx, ast.Store)]
    given += [part.arg for part in parts_of(function, ast.arg)]
    created = [target.id for part in parts_of(function, ast.Assign) if is_new(part.value)
               for target in part.targets if isinstance(target, ast.Name)]
    return {name for name in created if created.count(name) == given.count(name)}


def lengths_of_ranges(trees):
    """The methods __len__ that ask for the length of a range itself, if a class of the files has a __getitem__."""
    functions = functions_of(trees)
    if "__getitem__" not in functions:
        return []
    calls = [(method, call) for method in functions.get("__len__", []) for call in parts_of(method, ast.Call)]
    return [method for method, call in calls if calls_name(call, "len") and calls_name(call.args[0], "range")]


def calls_name(part, name):
    return isinstance(part, ast.Call) and isinstance(part.func, ast.Name) and part.func.id == name


class FormTest(unittest.TestCase):
    def test_interface_is_defined_in_its_files(self):
        for name, classes in METHODS.items():
            body = tree_of(TOP / "packedlanes" / name).body
            bodies = {part.name: part.body for part in body if isinstance(part, ast.ClassDef)}
            for kind, methods in classes.items():
                defined = [part.name for part in bodies[kind] if isinstance(part, ast.FunctionDef)]
                self.assertEqual([method for method in methods.split() if method not in defined], [])
            defined = [part.name for part in body if isinstance(part, ast.FunctionDef)]
            self.assertEqual([word for word in FUNCTIONS[name] if word not in defined], [])

    def test_characters_and_lengths(self):
        for path in FILES:
            with self.subTest(path.name):
                data = path.read_bytes()
                self.assertEqual([byte for byte in data if byte != 10 and not 32 <= byte <= 126], [])
                lines = data.decode("ascii").split("\n")
                self.assertLessEqual(len(lines), 400)
                self.assertLessEqual(max(len(line) for line in lines), 120)
                for part in ast.walk(tree_of(path)):
                    if isinstance(part, ast.FunctionDef):
                        self.assertLessEqual(part.end_lineno - part.lineno + 1, 40, part.name)

    def test_imports_only_the_package_and_the_listed_library(self):
        names = [path.stem for path in FILES]
        for path in FILES:
            for part in ast.walk(tree_of(path)):
                self.assertNotIsInstance(part, ast.Import)
                if isinstance(part, ast.ImportFrom):
                    self.assertEqual(part.level, 0)
                    first, *more = part.module.split(".")
                    self.assertTrue(first in LIBRARY or first == "packedlanes" and more[0] in names, part.module)

    def test_no_floats_no_division_no_great_exponents(self):
        for path in FILES:
            for part in ast.walk(tree_of(path)):
                self.assertNotIsInstance(part, (ast.Div, ast.Global, ast.AsyncFunctionDef))
                if isinstance(part, ast.Constant):
                    self.assertNotIsInstance(part.value, (float, complex))
                if isinstance(part, ast.BinOp) and isinstance(part.op, ast.Pow):
                    self.assertIsInstance(part.right, ast.Constant)
                    self.assertTrue(0 <= part.right.value <= 64)

    def test_no_generator_expressions_and_no_percent_signs(self):
        # In a package with an __eq__, any, all, sum, min, max and sorted take lists.
        for path in FILES:
            for part in ast.walk(tree_of(path)):
                self.assertNotIsInstance(part, ast.GeneratorExp)
                if isinstance(part, ast.Constant) and isinstance(part.value, str):
                    self.assertNotIn(chr(37), part.value)

    def test_lists_that_are_changed_are_not_made_by_the_sign_of_products(self):
        told = ast.parse("def f(n):\n    a = b = [0] * n\n    c = [0 for _ in range(n)]\n    a[1] = c[2] = b[0]\n")
        self.assertEqual((names_multiplied(told), names_changed(told)), ({"a", "b"}, {"a", "c"}))
        for path in FILES:
            for part in parts_of(tree_of(path), ast.FunctionDef):
                self.assertEqual(names_multiplied(part) & names_changed(part), set(), part.name)

    def test_functions_that_operators_reach_have_names_of_their_own(self):
        told = ast.parse("class A:\n    def __init__(self): f()\n    def __add__(self, x): return A()\n"
                         "def f(): x.g()\ndef g(): pass\ndef h(): pass\nclass B:\n    def g(self): pass\n")
        functions = functions_of([told])
        self.assertEqual((reached_by_operators(functions), len(functions["g"])), (["A", "f", "g"], 2))
        functions = functions_of([tree_of(path) for path in FILES])
        reached = reached_by_operators(functions)
        self.assertTrue({"Row", "product", "_product_by_pairs", "rest_row", "WrapLanes", "_lanes_of", "plain_digits"} <= set(reached))
        self.assertEqual([name for name in reached if len(functions[name]) != 1], [])

    def test_functions_that_operators_reach_change_only_what_they_created(self):
        told = ast.parse("def f(n):\n    a, b = g(), [1]\n    c = [k for k in n]\n    d = list(n)\n    d = c\n"
                         "    a[0] = c[0] = d[0] = n[0]\n").body[0]
        self.assertEqual(names_created(told), {"c"})
        functions = functions_of([tree_of(path) for path in FILES])
        for name in reached_by_operators(functions):
            for part in functions[name]:
                self.assertEqual(names_changed(part) - names_created(part), set(), name)

    def test_no_len_gives_back_the_length_of_a_range(self):
        told = ("class A:\n    def __len__(self): return len(range(self.n))\n"
                "class B:\n    def __len__(self): return len(list(range(self.n)))\n")
        more = "class C:\n    def __getitem__(self, at): return at\n"
        self.assertEqual([len(lengths_of_ranges([ast.parse(text)])) for text in (told, told + more)], [0, 1])
        trees = [tree_of(path) for path in FILES]
        self.assertEqual([len(functions_of(trees)[name]) for name in ("__len__", "__getitem__")], [1, 1])
        self.assertEqual(lengths_of_ranges(trees), [])

    def test_examples_of_the_readme(self):
        text = (TOP / "README.md").read_text(encoding="utf-8").replace("```", "")
        examples = doctest.DocTestParser().get_doctest(text, {}, "README.md", "README.md", 0)
        found = doctest.DocTestRunner().run(examples)
        self.assertGreater(found.attempted, 20)
        self.assertEqual(found.failed, 0)


if __name__ == "__main__":
    unittest.main()
