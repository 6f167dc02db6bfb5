"""The rules of ../shared/LANGUAGE.md that can be seen off the package's files by a short look."""

import ast
import builtins
import importlib
import os
import re
import unittest

PACKAGE = os.path.join(os.path.dirname(os.path.dirname(os.path.abspath(__file__))), "heelrow")
WORDS = (
    "type typing typing_extensions enum Enum IntEnum StrEnum Flag IntFlag Generic Protocol ABC ABCMeta namedtuple "
    "NamedTuple TypedDict TYPE_CHECKING abstractmethod"
).split()
INSIDE = ("dataclass", "overload", "contextmanager")
FUNCTIONS = {
    "webs": ("is_name(thing)",),
    "webtexts": ("read_web(text)",),
    "rows": ("is_row(web, thing)", "called(web, row, name)", "done(web, row, calls)"),
    "piles": (
        "laid(web, row, piles)", "piles(web, calls)", "behind(web, piles, other)", "again(web, piles, times)",
        "alike(web, calls, other)", "parting(web, calls, other)", "idle(web, calls)",
    ),
    "runs": ("bar(web, piles)", "runs(web, piles)", "fewest(web, piles)", "how_many(web, piles)"),
    "turns": (
        "stands(web, wish, *, most=MOST)", "way(web, row, wish, *, most=MOST)", "turn_of(web, row, one, other)",
        "firm(web, row)",
    ),
    "sures": tuple(name + "(web, row, other, *, most=MOST)" for name in ("musts", "firsts", "lasts")),
    "chances": ("chance(web, row, weights, wish, many, *, most=MOST)",),
    "shares": ("share(web, row, weights, wish, *, most=MOST)", "mean_ahead(web, row, weights, name)"),
    "torn": ("readings(web, row, wish, torn, *, most=MOST)", "places(web, row, wish, torn, *, most=MOST)"),
    "books": (
        "steps(book)", "tells(web, book)", "web_for(book)", "webs_many(book, *, most=MOST)", "sure(book)",
    ),
    "checker": ("holds(claim, paper)",),
    "papers": (
        "paper_alike(web, calls, other)", "paper_piles(web, piles)", "paper_way(web, row, wish, *, most=MOST)",
        "paper_share(web, row, weights, wish, *, most=MOST)", "paper_torn(web, row, wish, torn, *, most=MOST)",
        "paper_book(book)",
    ),
    "rests": ("is_rest(web, row, thing)", "rests_many(web)", "rest_at(web, row, number)", "number_of(web, row, rest)"),
}


CLASSES = {
    "webs": {"Web": (
        "__init__(self, persons)", "names(self)", "whom(self, name)", "leaders(self)", "callable(self)",
        "followers(self, name)", "above(self, name)", "below(self, name)", "high(self)", "joined(self, name, whom)",
        "parted(self, name)", "turned(self, name, whom)", "__eq__(self, other)", "__len__(self)", "__str__(self)",
        "__repr__(self)",
    )},
    "lines": {"Line": (
        "__init__(self, web, row)", "do(self, deed)", "do_all(self, deeds)", "back(self)", "web(self)", "now(self)",
        "log(self)", "piles(self)", "__eq__(self, other)", "__len__(self)", "__str__(self)", "__repr__(self)",
    )},
    "desk": {"Desk": ("__init__(self, web, row)", "say(self, row)")},
}
VALUES = {"bounds": {"MOST": 2000, "BIG": 10 ** 30}, "lines": {"MOST_DEEDS": 2000}}
# What the checker may be made of: stages 1 and 3, and parts that nobody else imports.
CHECKER = ("bounds.py", "errors.py", "webs.py", "rows.py")


def files():
    """Each file's name with its text."""
    found = {}
    for name in sorted(os.listdir(PACKAGE)):
        if name != "__pycache__":
            with open(os.path.join(PACKAGE, name), encoding="utf-8", newline="") as held:
                found[name] = held.read()
    return found


def imports():
    """For each file the files from which it imports."""
    needs = {}
    for name, text in files().items():
        modules = [node.module for node in ast.walk(ast.parse(text)) if isinstance(node, ast.ImportFrom)]
        needs[name] = {module.split(".")[1] + ".py" for module in modules}
    return needs


def nodes():
    """Each node of each file, with the file's name."""
    return [(name, node) for name, text in files().items() for node in ast.walk(ast.parse(text))]


class Files(unittest.TestCase):
    def test_names(self):
        for name in files():
            self.assertRegex(name, r"^([a-z][a-z0-9_]*|__init__|__main__)\.py$")
        self.assertIn("__init__.py", files())

    def test_signs_and_sizes(self):
        for name, text in files().items():
            self.assertRegex(text, r"\A[\n -~]*\Z", name)
            rows = text.split("\n")
            self.assertLessEqual(len(rows), 399, name)
            self.assertLessEqual(max(len(row) for row in rows), 120, name)

    def test_words(self):
        for name, text in files().items():
            for word in WORDS:
                self.assertIsNone(re.search(r"\b" + word + r"\b", text), (name, word))
            for word in INSIDE:
                self.assertNotIn(word, text, name)


class Code(unittest.TestCase):
    def test_functions_are_short(self):
        for name, node in nodes():
            if isinstance(node, ast.FunctionDef):
                self.assertLessEqual(node.end_lineno - node.lineno + 1, 40, (name, node.name))

    def test_imports(self):
        for name, node in nodes():
            self.assertNotIsInstance(node, ast.Import, name)
            if isinstance(node, ast.ImportFrom):
                self.assertEqual(node.level, 0, name)
                self.assertRegex(node.module, r"^heelrow\.[a-z]+$")
                self.assertNotIn("*", [one.name for one in node.names])

    def test_is(self):
        for name, node in nodes():
            if isinstance(node, ast.Compare):
                for sign, right in zip(node.ops, node.comparators):
                    if isinstance(sign, (ast.Is, ast.IsNot)):
                        self.assertIsInstance(right, ast.Constant, (name, node.lineno))
                        self.assertIn(right.value, (None, True, False), (name, node.lineno))

    def test_no_floats_and_no_percent_in_texts(self):
        for name, node in nodes():
            self.assertNotIsInstance(node, ast.Div, name)
            if isinstance(node, ast.Constant):
                self.assertNotIsInstance(node.value, float, name)
                if isinstance(node.value, str):
                    self.assertNotIn("%", node.value, name)

    def test_no_name_is_a_method_and_an_attribute(self):
        methods, attributes = set(), set()
        for name, node in nodes():
            if isinstance(node, ast.ClassDef):
                methods |= {one.name for one in node.body if isinstance(one, ast.FunctionDef)}
            if isinstance(node, ast.Attribute) and isinstance(node.ctx, ast.Store):
                attributes.add(node.attr)
        self.assertEqual(methods & attributes, set())

    def test_lists_for_any_and_its_kin(self):
        # A class of the package has __eq__, so these take no bare generator.
        for name, node in nodes():
            if isinstance(node, ast.Call) and isinstance(node.func, ast.Name):
                if node.func.id in ("any", "all", "min", "max", "sum", "sorted"):
                    for one in node.args:
                        self.assertNotIsInstance(one, ast.GeneratorExp, (name, node.lineno))

    def test_no_name_is_a_builtin_or_an_import(self):
        for name, text in files().items():
            tree = ast.parse(text)
            taken = set(dir(builtins)) | {node.name for node in tree.body if isinstance(node, ast.ClassDef)}
            for node in ast.walk(tree):
                if isinstance(node, ast.ImportFrom):
                    taken |= {one.name for one in node.names}
            for node in ast.walk(tree):
                if isinstance(node, ast.Name) and isinstance(node.ctx, ast.Store):
                    self.assertNotIn(node.id, taken, (name, node.lineno))
                if isinstance(node, ast.arg):
                    self.assertNotIn(node.arg, taken, (name, node.lineno))
            for node in tree.body:
                if isinstance(node, ast.FunctionDef):
                    self.assertNotIn(node.name, taken, (name, node.lineno))

    def test_names_are_plain(self):
        for name, node in nodes():
            if isinstance(node, ast.Name):
                self.assertRegex(node.id, r"^[A-Za-z][A-Za-z0-9_]*$", (name, node.lineno))
            if isinstance(node, ast.arg):
                self.assertRegex(node.arg, r"^[a-z][a-z0-9_]*$", (name, node.lineno))

    def test_the_checker_imports_stages_1_and_3_and_its_own_parts(self):
        needs = imports()
        found, left = set(), ["checker.py"]
        while left:
            found.add(left[0])
            left = left[1:] + [name for name in sorted(needs[left[0]]) if name not in found]
        own = found - set(CHECKER)
        for name in own - {"checker.py"}:
            self.assertNotIn(name[:-3], FUNCTIONS)
            self.assertEqual({other for other in needs if name in needs[other]} - own, set(), name)
        self.assertEqual(own, {"checker.py", "checkbooks.py", "checkpiles.py", "checkstands.py"})

    def test_no_two_files_import_from_each_other(self):
        needs = imports()
        while needs:
            free = [name for name in needs if not needs[name] & set(needs)]
            self.assertNotEqual(free, [], sorted(needs))
            needs = {name: needs[name] for name in needs if name not in free}

    def test_each_import_names_the_file_that_defines_it(self):
        for name, text in files().items():
            for node in ast.walk(ast.parse(text)):
                if isinstance(node, ast.ImportFrom):
                    found = defined(files()[node.module.split(".")[1] + ".py"])
                    for one in node.names:
                        self.assertIn(one.name, found, (name, node.module))


def defined(text):
    """The names that a file's text defines itself."""
    found = []
    for node in ast.parse(text).body:
        if isinstance(node, (ast.FunctionDef, ast.ClassDef)):
            found.append(node.name)
        if isinstance(node, ast.Assign):
            found.append(node.targets[0].id)
    return found


def heads(body):
    """For each function of a body its arguments."""
    return {node.name: ast.unparse(node.args) for node in body if isinstance(node, ast.FunctionDef)}


class Interface(unittest.TestCase):
    def check_heads(self, found, listed, where):
        for one in listed:
            function, arguments = one.rstrip(")").split("(")
            self.assertEqual(found[function], arguments, (where, function))

    def test_each_function_stands_in_its_file_with_its_arguments(self):
        for name, functions in FUNCTIONS.items():
            self.check_heads(heads(ast.parse(files()[name + ".py"]).body), functions, name)

    def test_each_class_stands_in_its_file_with_its_methods(self):
        for name, classes in CLASSES.items():
            body = ast.parse(files()[name + ".py"]).body
            found = {node.name: node for node in body if isinstance(node, ast.ClassDef)}
            for one, methods in classes.items():
                self.check_heads(heads(found[one].body), methods, one)

    def test_each_value_stands_in_its_file(self):
        for name, values in VALUES.items():
            module = importlib.import_module("heelrow." + name)
            for one, want in values.items():
                self.assertIn(one, defined(files()[name + ".py"]))
                self.assertEqual(getattr(module, one), want)

    def test_each_module_can_be_imported_alone(self):
        for name in files():
            module = importlib.import_module("heelrow." + name[:-3] if name != "__init__.py" else "heelrow")
            self.assertEqual(os.path.basename(module.__file__), name)


if __name__ == "__main__":
    unittest.main()
