"""Tests of the form of the package: the rules of the language subset that are plainly seen in the code.

The rules are many more; these tests are no proof that the code keeps them all.
"""

import ast
import builtins
import re
import unittest
from pathlib import Path

PACKAGE = Path(__file__).resolve().parent.parent / "readingsall"

# What the interface lists, by the file in which it is defined.
INTERFACE = {
    "errors": {
        "ReadingsError": [], "BadName": [], "BadGrammar": [], "Duplicate": [], "Unknown": [],
        "BadText": [], "BadForest": [], "NoReading": [], "NoGrowth": [], "Ring": [], "BadLine": [],
    },
    "names": {
        "is_name": ["text"], "is_form": ["text"], "split_text": ["text"], "join_words": ["words"],
    },
    "features": {
        "fits": ["rule", "label", "labels"], "left_labels": ["grammar", "number", "labels"],
    },
    "grammar": {"Grammar": []},
    "words": {
        "join": ["seams", "text", "more"], "row_text": ["grammar", "row"], "row_state": ["grammar", "row"],
        "row_marks": ["grammar", "row"], "row_labels": ["grammar", "row"], "rows_up_to": ["grammar", "most"],
    },
    "stages": {
        "reach": ["grammar"], "possible": ["grammar", "text", "form"], "stages": ["grammar", "form"],
        "is_complete": ["grammar", "stage", "form", "label"], "rows_of": ["grammar", "form"],
    },
    "chart": {"table": ["grammar", "words"]},
    "certify": {"accepts": ["grammar", "words", "pair"]},
    "derivations": {
        "derives": ["grammar", "words", "label", "derivation"], "is_reading": ["grammar", "words", "derivation"],
        "cost": ["grammar", "derivation"], "gloss": ["grammar", "derivation"], "words_of": ["grammar", "derivation"],
    },
    "forest": {"Forest": []},
    "ranking": {"Ranking": []},
    "examples": {"example": ["grammar", "label"]},
    "language": {
        "write_grammar": ["grammar"], "read_grammar": ["lines"], "same_grammar": ["one", "other"],
        "write_derivation": ["derivation"], "read_derivation": ["lines"],
    },
}

# The methods that the interface lists for a class: the arguments, then those that are passed by keyword.
CLASSES = {
    "Grammar": {
        "__init__": ([], []), "add_attribute": (["name", "values"], []),
        "add_category": (["name", "attributes"], []), "set_start": (["category"], []),
        "set_first": (["state"], []), "add_rule": (["pattern", "parts"], ["cost", "gloss_row"]),
        "add_morph": (["text", "kind"], ["marks", "cost", "gloss"]), "add_arc": (["state", "kind", "target"], []),
        "add_end": (["state", "category"], []), "add_seam": (["left", "right", "joined"], []),
        "attributes": ([], []), "categories": ([], []), "rules": ([], []), "morphs": ([], []), "arcs": ([], []),
        "ends": ([], []), "seams": ([], []), "start": ([], []), "first": ([], []), "labels": (["category"], []),
    },
    "Forest": {
        "__init__": (["entries"], []), "counts": (["entry"], []), "total": (["entry"], []),
        "tree": (["entry", "number"], []), "number": (["tree"], []), "cost": (["tree"], []),
        "trees": (["entry", "start"], []),
    },
    "Ranking": {
        "__init__": (["grammar", "words"], []), "reading_count": ([], []), "by_cost": ([], []),
        "reading": (["number"], []), "number": (["derivation"], []), "readings": (["start"], []), "table": ([], []),
    },
}
PROPERTIES = {"Grammar": ["start", "first"], "Ranking": ["reading_count"]}
# Methods that yield; no other function or method has the name of one.
GENERATORS = {"Forest": ["trees"], "Ranking": ["readings"]}

LIBRARY = {
    "heapq": {"heappush", "heappop", "heapify", "heapreplace", "heappushpop"},
    "math": {"gcd", "lcm", "isqrt", "comb", "perm", "factorial"},
    "itertools": {"product", "combinations", "permutations", "chain", "accumulate", "pairwise", "islice",
                  "zip_longest"},
    "collections": {"defaultdict", "deque"},
    "__future__": {"annotations"},
}

BUILTINS = set("""len range enumerate zip min max sum abs sorted reversed int str bool bytes list tuple dict
    set frozenset isinstance ord repr any all divmod pow iter next map super property staticmethod classmethod
    Exception ValueError TypeError KeyError IndexError LookupError ZeroDivisionError ArithmeticError
    OverflowError RuntimeError NotImplementedError AttributeError StopIteration NotImplemented
    getattr hasattr setattr type object float""".split())

METHODS = set("""append clear copy count endswith extend find get index insert isalnum isalpha isdigit islower
    isspace isupper items join keys ljust lower lstrip partition pop remove replace reverse rfind rjust
    rpartition rsplit rstrip setdefault split splitlines startswith strip update upper values zfill bit_length
    title capitalize swapcase casefold center expandtabs removeprefix removesuffix rindex isascii isdecimal
    isnumeric istitle isidentifier isprintable sort add discard""".split())

BARRED = re.compile(r"""\b(type|typing|typing_extensions|enum|Enum|IntEnum|StrEnum|Flag|IntFlag|Generic|Protocol
    |ABC|ABCMeta|namedtuple|NamedTuple|TypedDict|TYPE_CHECKING|abstractmethod|register|mro|elements|open|input
    |law|version_info)\b""", re.VERBOSE)

# These words stand in no string but a docstring.
IN_STRINGS = re.compile(r"""\b(typing|typing_extensions|enum|Enum|IntEnum|StrEnum|Flag|IntFlag|Generic|Protocol|ABC
    |ABCMeta|namedtuple|NamedTuple|TypedDict|TYPE_CHECKING|abstractmethod)\b|dataclass|overload|contextmanager|__
    |\._""", re.VERBOSE)

STATEMENTS = (
    ast.Assign, ast.AugAssign, ast.AnnAssign, ast.If, ast.While, ast.For, ast.Return, ast.Break, ast.Continue,
    ast.Pass, ast.Raise, ast.Assert, ast.Delete, ast.Nonlocal, ast.Global, ast.Match, ast.With, ast.Try,
    ast.Expr, ast.FunctionDef, ast.ClassDef, ast.ImportFrom,
)


def files():
    return sorted(PACKAGE.rglob("*.py"))


def trees():
    return [(path, ast.parse(path.read_text("ascii"))) for path in files()]


def nodes(*kinds):
    """Each node of one of the kinds, with the place at which it stands."""
    for path, tree in trees():
        for node in ast.walk(tree):
            if isinstance(node, kinds):
                yield f"{path.name}:{getattr(node, 'lineno', 0)}", node


def own_names():
    """The names of the functions, methods, classes and attributes that the package defines."""
    found = {node.name for _, node in nodes(ast.FunctionDef, ast.ClassDef)}
    return found | {node.attr for _, node in nodes(ast.Attribute) if isinstance(node.ctx, ast.Store)}


class Files(unittest.TestCase):
    def test_the_folder_contains_nothing_but_files_of_plain_names(self):
        for path in PACKAGE.rglob("*"):
            if path.name != "__pycache__" and path.parent.name != "__pycache__":
                with self.subTest(path.name):
                    self.assertRegex(path.name, r"^[a-z0-9_]+(\.py)?$")
                    self.assertTrue(path.is_dir() or path.suffix == ".py")
        self.assertIn("__init__.py", [path.name for path in files()])

    def test_characters_and_sizes(self):
        for path in files():
            text = path.read_bytes().decode("latin-1")
            lines = text.splitlines()
            with self.subTest(path.name):
                self.assertRegex(text, r"\A[\n -~]*\Z")
                self.assertLessEqual(len(lines), 399)
                self.assertLessEqual(max(len(line) for line in lines), 120)
                self.assertNotRegex(text, r"_wall|_WallAttr")

    def test_functions_are_short(self):
        for place, node in nodes(ast.FunctionDef):
            with self.subTest(place):
                self.assertLessEqual(node.end_lineno - node.lineno + 1, 40)


class Imports(unittest.TestCase):
    def test_only_from_the_package_and_the_library(self):
        for place, node in nodes(ast.Import, ast.ImportFrom):
            with self.subTest(place):
                self.assertIsInstance(node, ast.ImportFrom)
                self.assertEqual(node.level, 0)
                for alias in node.names:
                    self.assertIsNone(alias.asname)
                    if not node.module.startswith("readingsall."):
                        self.assertIn(alias.name, LIBRARY[node.module])

    def test_names_are_imported_from_the_file_that_defines_them(self):
        defined = {f"readingsall.{path.stem}": ast.dump(tree) for path, tree in trees()}
        for place, node in nodes(ast.ImportFrom):
            for alias in node.names:
                if node.module.startswith("readingsall."):
                    with self.subTest(place, name=alias.name):
                        self.assertRegex(defined[node.module], f"(name|id)='{alias.name}'")
                        self.assertNotIn(f"alias(name='{alias.name}'", defined[node.module])

    def test_no_two_files_import_from_each_other(self):
        needs = {}
        for path, tree in trees():
            needs[path.stem] = {node.module.split(".")[-1] for node in ast.walk(tree)
                                if isinstance(node, ast.ImportFrom) and node.module.startswith("readingsall.")}
        while needs:
            free = [name for name in needs if not needs[name] & needs.keys()]
            self.assertTrue(free, f"a circle among {sorted(needs)}")
            for name in free:
                del needs[name]


class Code(unittest.TestCase):
    def test_statements(self):
        for place, node in nodes(ast.stmt):
            with self.subTest(place):
                self.assertIsInstance(node, STATEMENTS)
        for path, tree in trees():
            for node in tree.body:
                with self.subTest(path.name, line=node.lineno):
                    self.assertIsInstance(node, (ast.Expr, ast.ImportFrom, ast.Assign, ast.FunctionDef, ast.ClassDef))

    def test_builtins(self):
        for place, node in nodes(ast.Name):
            if hasattr(builtins, node.id):
                with self.subTest(place, name=node.id):
                    self.assertIn(node.id, BUILTINS)
                    self.assertIsInstance(node.ctx, ast.Load)
        for place, node in nodes(ast.arg):
            with self.subTest(place, name=node.arg):
                self.assertFalse(hasattr(builtins, node.arg))

    def test_no_variable_has_the_name_of_a_class_or_an_import_of_its_file(self):
        for path, tree in trees():
            every = list(ast.walk(tree))
            taken = {alias.name for node in every if isinstance(node, ast.ImportFrom) for alias in node.names}
            taken |= {node.name for node in every if isinstance(node, ast.ClassDef)}
            stored = {node.id for node in every if isinstance(node, ast.Name) and isinstance(node.ctx, ast.Store)}
            stored |= {node.arg for node in every if isinstance(node, ast.arg)}
            with self.subTest(path.name):
                self.assertEqual(taken & stored, set())

    def test_methods(self):
        own = own_names()
        for place, node in nodes(ast.Attribute):
            with self.subTest(place, name=node.attr):
                self.assertIn(node.attr, METHODS | own | {"__init__"})

    def test_values(self):
        for place, node in nodes(ast.Constant):
            with self.subTest(place):
                self.assertNotIsInstance(node.value, (float, complex))
                if isinstance(node.value, str):
                    self.assertNotIn("%", node.value)
        for place, node in nodes(ast.Div, ast.AsyncFunctionDef, ast.Await):
            self.fail(f"{node} in {place}")

    def test_words_in_strings(self):
        for path, tree in trees():
            docstrings = [node.value for node in ast.walk(tree) if isinstance(node, ast.Expr)]
            for node in ast.walk(tree):
                if isinstance(node, ast.Constant) and isinstance(node.value, str) and node not in docstrings:
                    with self.subTest(path.name, line=node.lineno):
                        self.assertNotRegex(node.value, IN_STRINGS)

    def test_captured_names(self):
        for place, function in nodes(ast.FunctionDef):
            cases = [node for node in ast.walk(function) if isinstance(node, ast.match_case)]
            inside = [{node.name for node in ast.walk(case.pattern) if isinstance(node, (ast.MatchAs, ast.MatchStar))}
                      for case in cases]
            stored = {node.id for node in ast.walk(function) if isinstance(node, ast.Name) and isinstance(node.ctx, ast.Store)}
            taken = stored | {node.arg for node in ast.walk(function) if isinstance(node, ast.arg)}
            with self.subTest(place):
                for case, names in zip(cases, inside):
                    self.assertEqual(names & taken, set())
                    read = {node.id for each in case.body for node in ast.walk(each) if isinstance(node, ast.Name)}
                    self.assertEqual(read & set().union(*inside) - names, set())

    def test_dict_views_and_the_like_are_iterated_on_the_spot(self):
        parents = {}
        for _, tree in trees():
            parents.update({id(child): node for node in ast.walk(tree) for child in ast.iter_child_nodes(node)})
            for node in ast.walk(tree):
                if isinstance(node, ast.Call):
                    name = getattr(node.func, "id", None) or getattr(node.func, "attr", None)
                    if name in ("zip", "enumerate", "reversed", "range", "items", "keys", "values"):
                        parent = parents[id(node)]
                        by_call = isinstance(parent, ast.Call) and getattr(parent.func, "id", None) in (
                            "list", "tuple", "dict", "sorted", "sum", "any", "all", "enumerate", "zip", "reversed")
                        self.assertTrue(by_call or isinstance(parent, (ast.For, ast.comprehension)), ast.dump(node))

    def test_barred_words(self):
        for place, node in nodes(ast.Name, ast.Attribute, ast.arg, ast.FunctionDef, ast.ClassDef, ast.keyword):
            for field in ("id", "attr", "arg", "name"):
                word = getattr(node, field, None) or ""
                if word != "type":
                    with self.subTest(place, name=word):
                        self.assertNotRegex(word, BARRED)
                        self.assertRegex(word, r"\A(_?[A-Za-z][A-Za-z0-9_]*|_|__[a-z]+__|)\Z")


class Interface(unittest.TestCase):
    def test_each_name_is_defined_in_its_file_with_its_arguments(self):
        for name, wanted in INTERFACE.items():
            tree = ast.parse((PACKAGE / f"{name}.py").read_text("ascii"))
            found = {node.name: node for node in tree.body if isinstance(node, (ast.FunctionDef, ast.ClassDef))}
            for one, arguments in wanted.items():
                with self.subTest(file=name, name=one):
                    self.assertIn(one, found)
                    if isinstance(found[one], ast.FunctionDef):
                        self.assertEqual([each.arg for each in found[one].args.args], arguments)

    def test_each_class_itself_defines_its_methods_with_their_arguments(self):
        for _, node in nodes(ast.ClassDef):
            wanted = CLASSES.get(node.name, {})
            found = {one.name: one for one in node.body if isinstance(one, ast.FunctionDef)}
            for name, (plain, by_keyword) in wanted.items():
                with self.subTest(node.name, method=name):
                    self.assertIn(name, found)
                    told = found[name].args
                    self.assertEqual([each.arg for each in told.args], ["self", *plain])
                    self.assertEqual([each.arg for each in told.kwonlyargs], by_keyword)
                    over = [each.id for each in found[name].decorator_list]
                    self.assertEqual(over, ["property"] if name in PROPERTIES.get(node.name, []) else [])
                    yields = any(isinstance(each, ast.Yield) for each in ast.walk(found[name]))
                    self.assertIs(yields, name in GENERATORS.get(node.name, []))

    def test_all_classes_of_the_interface_are_looked_at(self):
        self.assertLessEqual(set(CLASSES), {node.name for _, node in nodes(ast.ClassDef)})

    def test_no_other_function_has_the_name_of_a_generator(self):
        names = [node.name for _, node in nodes(ast.FunctionDef)]
        for generators in GENERATORS.values():
            for name in generators:
                self.assertEqual(names.count(name), 1)


if __name__ == "__main__":
    unittest.main()
