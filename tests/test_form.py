"""That the interface stands where DOC.md lists it, and that the files keep the plainest rules of form."""

import ast
import inspect
import pathlib
import unittest

from whomayname import errors, houses, levels, library, parting, reach, rules

PACKAGE = pathlib.Path(rules.__file__).parent

METHODS = {
    (rules, "Rule"): ("of", "stances", "__and__", "__or__", "__le__", "__contains__"),
    (rules, "Book"): ("__init__", "usual", "levels", "__getitem__", "__contains__", "__iter__", "__le__"),
    (library, "Packages"): ("__init__", "add_package", "is_sealed"),
    (library, "Lineage"): ("__init__", "link", "is_below", "classes"),
    (library, "Library"): ("__init__", "add_class", "add_member", "add_use", "owner_of", "level_of", "marks"),
    (houses, "House"): ("__init__", "book", "library", "stance", "broken", "check", "accepts", "run", "releveled",
                        "moved"),
    (reach, "Table"): ("__init__", "__contains__", "__getitem__", "__len__", "__iter__"),
}

FUNCTIONS = {
    houses: ("swap_book",),
    parting: ("first_break", "parting", "safe_moves"),
    levels: ("tightest", "against", "openings"),
}

SIGNATURES = {
    library.Packages.add_package: "(self, name, *, sealed=False)",
    library.Packages.is_sealed: "(self, name)",
    library.Lineage.link: "(self, name, *, inside=None, bases=())",
    library.Lineage.is_below: "(self, lower, upper)",
    library.Library.add_class: "(self, name, *, maker, package=None, inside=None, bases=())",
    library.Library.add_member: "(self, owner, name, *, kind, level, write=None)",
    library.Library.add_use: "(self, place, way, name, through, *, body=None)",
    library.Library.owner_of: "(self, through, name)",
    library.Library.level_of: "(self, mark)",
    rules.Rule.of: "(*words)",
    rules.Book.usual: "()",
    houses.House: "(library, book)",
    houses.House.library: "(self)",
    houses.House.stance: "(self, place, owner, through)",
    houses.House.broken: "(self)",
    houses.House.check: "(self, rows)",
    houses.House.accepts: "(self, rows)",
    houses.House.run: "(self, rows)",
    houses.House.releveled: "(self, levels)",
    houses.House.moved: "(self, name, package)",
    houses.swap_book: "(house, book)",
    reach.Table: "(house)",
    parting.first_break: "(house, other)",
    parting.parting: "(house, other)",
    parting.safe_moves: "(house)",
    levels.tightest: "(house)",
    levels.against: "(house, mark, level)",
    levels.openings: "(house, wishes)",
    rules.Book: "(pairs)",
    library.Packages: "()",
    library.Lineage: "()",
    library.Library: "()",
}


class Interface(unittest.TestCase):
    def test_methods_stand_in_their_class(self):
        for (module, name), methods in METHODS.items():
            made = getattr(module, name)
            self.assertEqual(made.__module__, module.__name__)
            for method in methods:
                self.assertIn(method, vars(made), (name, method))

    def test_functions_stand_in_their_file(self):
        for module, names in FUNCTIONS.items():
            for name in names:
                self.assertEqual(getattr(module, name).__module__, module.__name__)

    def test_errors_stand_in_their_file(self):
        for name in ("AccessError", "Unknown", "Taken", "Sealed", "Joined", "Misfit", "Narrow", "Unlike",
                     "Shut", "Barred"):
            self.assertEqual(getattr(errors, name).__module__, "whomayname.errors")

    def test_library_is_both(self):
        self.assertEqual(library.Library.__bases__, (library.Packages, library.Lineage))

    def test_signatures(self):
        for call, text in SIGNATURES.items():
            self.assertEqual(str(inspect.signature(call)), text, call)

    def test_properties(self):
        for made, name in ((rules.Rule, "stances"), (rules.Book, "levels"),
                           (library.Lineage, "classes"), (library.Library, "marks"), (houses.House, "book")):
            self.assertIsInstance(vars(made)[name], property)
        self.assertIsNotNone(vars(houses.House)["book"].fset)
        self.assertIsInstance(vars(rules.Rule)["of"], classmethod)
        self.assertIsInstance(vars(rules.Book)["usual"], staticmethod)


class Form(unittest.TestCase):
    def files(self):
        found = [path for path in PACKAGE.iterdir() if path.name != "__pycache__"]
        for path in found:
            self.assertEqual(path.suffix, ".py", path)
        return found

    def test_size_and_characters(self):
        for path in self.files():
            text = path.read_text(encoding="utf-8")
            lines = text.split("\n")
            self.assertLess(len(lines), 400, path)
            self.assertLessEqual(max(map(len, lines)), 120, path)
            self.assertTrue(all(" " <= sign <= "~" or sign == "\n" for sign in text), path)

    def test_functions_are_short(self):
        for path in self.files():
            for node in ast.walk(ast.parse(path.read_text(encoding="utf-8"))):
                if isinstance(node, ast.FunctionDef):
                    self.assertLessEqual(node.end_lineno - node.lineno + 1, 40, (path, node.name))

    def test_imports_come_from_the_package(self):
        for path in self.files():
            for node in ast.walk(ast.parse(path.read_text(encoding="utf-8"))):
                self.assertNotIsInstance(node, ast.Import, path)
                if isinstance(node, ast.ImportFrom):
                    self.assertTrue(node.module.startswith("whomayname."), path)


if __name__ == "__main__":
    unittest.main()
