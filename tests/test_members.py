"""Points 8 and 9: members, roots, declarations, owners, marks and their levels."""

import itertools
import unittest

from tests.support import Refusals, seen
from whomayname.errors import Misfit, Taken, Unknown
from whomayname.library import Library

KINDS = ("field", "method", "static")

# r and s are not related; b and c are below r; d is below b and s; e is below d; i lies inside r.
BASES = {"r": (), "s": (), "b": ("r",), "c": ("r",), "d": ("s", "b"), "e": ("d",), "i": ()}
BELOW = {"r": "rbcde", "s": "sde", "b": "bde", "c": "c", "d": "de", "e": "e", "i": "i"}
NAMES = ("m", "n", "new", "x", "p", *BASES)


def classes():
    library = Library()
    library.add_package("p")
    for name, bases in BASES.items():
        if name == "i":
            library.add_class(name, maker=f"maker{name}", inside="r")
        else:
            library.add_class(name, maker=f"maker{name}", package="p", bases=bases)
    return library


def makers():
    return {(name, "new", "make"): f"maker{name}" for name in BASES}


class Members(unittest.TestCase, Refusals):
    def assert_marks(self, library, expected):
        told = library.marks
        self.assertIs(type(told), list)
        self.assertEqual(len(told), len(set(told)))
        self.assertEqual({mark: library.level_of(mark) for mark in told}, {**makers(), **expected})

    def test_makers_only(self):
        self.assertEqual(Library().marks, [])
        self.assert_marks(classes(), {})

    def test_field_with_one_level(self):
        library = classes()
        self.assertIsNone(library.add_member("r", "m", kind="field", level="one"))
        library.add_member("s", "n", kind="field", level="two", write=None)
        self.assert_marks(library, {
            ("r", "m", "read"): "one", ("r", "m", "write"): "one",
            ("s", "n", "read"): "two", ("s", "n", "write"): "two",
        })

    def test_field_with_two_levels(self):
        library = classes()
        library.add_member("r", "m", kind="field", level="one", write="two")
        self.assert_marks(library, {("r", "m", "read"): "one", ("r", "m", "write"): "two"})

    def test_method_and_static(self):
        library = classes()
        library.add_member("r", "m", kind="method", level="one")
        library.add_member("i", "n", kind="static", level="two")
        self.assert_marks(library, {("r", "m", "call"): "one", ("i", "n", "call"): "two"})

    def test_method_declared_again(self):
        library = classes()
        library.add_member("r", "m", kind="method", level="one")
        library.add_member("e", "m", kind="method", level="two")
        library.add_member("b", "m", kind="method", level="one")
        self.assert_marks(library, {
            ("r", "m", "call"): "one", ("e", "m", "call"): "two", ("b", "m", "call"): "one",
        })

    def test_told_marks_are_a_copy(self):
        library = classes()
        library.add_member("r", "m", kind="field", level="one")
        told = library.marks
        told.append(("r", "m", "call"))
        told[0] = None
        self.assert_marks(library, {("r", "m", "read"): "one", ("r", "m", "write"): "one"})
        self.assert_refused(Unknown, ("r", "m", "call"), library.level_of, ("r", "m", "call"))
        told.clear()
        self.assertEqual(len(library.marks), len(BASES) + 2)

    def test_unknown_marks(self):
        library = classes()
        library.add_member("r", "m", kind="field", level="one")
        library.add_member("r", "n", kind="method", level="one")
        known = set(library.marks)
        for mark in itertools.product(NAMES, NAMES, ("read", "write", "call", "make", "elder")):
            if mark not in known:
                self.assert_refused(Unknown, mark, library.level_of, mark)
        self.assertEqual(set(library.marks), known)

    def test_beside_each_other(self):
        one, two = classes(), classes()
        one.add_member("r", "m", kind="method", level="one")
        self.assert_marks(two, {})
        two.add_member("s", "m", kind="field", level="two")
        self.assertEqual((one.owner_of("d", "m"), two.owner_of("d", "m")), ("r", "s"))

    def test_beyond_the_limits(self):
        library = classes()
        for at in range(40):
            library.add_member("r", f"averylongmembername{at}", kind=KINDS[at % 3], level=f"level{at}")
        for at in range(40):
            self.assertEqual(library.owner_of("e", f"averylongmembername{at}"), "r")
        self.assertEqual(len(library.marks), len(BASES) + 40 + 14)


class Owners(unittest.TestCase):
    def assert_owners(self, library, name, expected):
        """Expected gives, for each owner, the classes that have its declaration."""
        owner = {has: owner for owner, having in expected.items() for has in having}
        for through in (*BASES, "x", "p", "m", "new"):
            self.assertEqual(library.owner_of(through, name), owner.get(through), (through, name))

    def test_declared_once(self):
        for kind, root in itertools.product(KINDS, BASES):
            library = classes()
            library.add_member(root, "m", kind=kind, level="one")
            self.assert_owners(library, "m", {root: BELOW[root]})
            for name in ("new", "n", "r", "x", "p"):
                self.assert_owners(library, name, {})

    def test_declared_again(self):
        library = classes()
        library.add_member("r", "m", kind="method", level="one")
        self.assert_owners(library, "m", {"r": "rbcde"})
        library.add_member("e", "m", kind="method", level="one")
        self.assert_owners(library, "m", {"r": "rbcd", "e": "e"})
        library.add_member("b", "m", kind="method", level="one")
        self.assert_owners(library, "m", {"r": "rc", "b": "bd", "e": "e"})
        library.add_member("d", "m", kind="method", level="one")
        library.add_member("c", "m", kind="method", level="one")
        self.assert_owners(library, "m", {"r": "r", "b": "b", "c": "c", "d": "d", "e": "e"})

    def test_two_names_by_two_bases(self):
        library = classes()
        library.add_member("s", "m", kind="method", level="one")
        library.add_member("r", "n", kind="method", level="one")
        library.add_member("b", "n", kind="method", level="one")
        self.assert_owners(library, "m", {"s": "sde"})
        self.assert_owners(library, "n", {"r": "rc", "b": "bde"})

    def test_class_added_after_the_member(self):
        library = classes()
        library.add_member("r", "m", kind="method", level="one")
        library.add_member("c", "m", kind="method", level="one")
        library.add_class("f", maker="one", package="p", bases=("i", "c"))
        library.add_class("g", maker="one", inside="f", bases=("s",))
        self.assertEqual(library.owner_of("f", "m"), "c")
        self.assertIsNone(library.owner_of("g", "m"))

    def test_nested_class_has_nothing_of_the_class_around(self):
        library = classes()
        library.add_member("r", "m", kind="static", level="one")
        self.assertIsNone(library.owner_of("i", "m"))

    def test_maker_has_no_owner(self):
        library = classes()
        for name in BASES:
            self.assertIsNone(library.owner_of(name, "new"))
        self.assertIsNone(library.owner_of("new", "new"))

    def test_deep_chain(self):
        library = Library()
        library.add_package("p")
        library.add_class("c0", maker="one", package="p")
        for at in range(1, 60):
            library.add_class(f"c{at}", maker="one", package="p", bases=(f"c{at - 1}",))
        library.add_member("c0", "m", kind="method", level="one")
        library.add_member("c20", "m", kind="method", level="one")
        self.assertEqual([library.owner_of(f"c{at}", "m") for at in (0, 19, 20, 59)], ["c0", "c0", "c20", "c20"])


class MemberErrors(unittest.TestCase, Refusals):
    def assert_refused_and_unchanged(self, error, what, library, owner, name, **more):
        before = seen(library, NAMES)
        self.assert_refused(error, what, library.add_member, owner, name, **more)
        self.assertEqual(seen(library, NAMES), before)

    def test_unknown_owner(self):
        for kind in KINDS:
            for owner in ("x", "p", "new", "m"):
                library = classes()
                self.assert_refused_and_unchanged(Unknown, owner, library, owner, "m", kind=kind, level="one")
                library.add_member("s", "m", kind="field", level="two")
                self.assertEqual(library.owner_of("s", "m"), "s")

    def test_taken(self):
        for before, after in itertools.product(KINDS, repeat=2):
            for owner in BASES:
                library = classes()
                library.add_member(owner, "m", kind=before, level="one", write="two")
                self.assert_refused_and_unchanged(Taken, "m", library, owner, "m", kind=after, level="three")

    def test_taken_where_it_is_declared_again(self):
        for kind in KINDS:
            library = classes()
            library.add_member("r", "m", kind="method", level="one")
            library.add_member("d", "m", kind="method", level="one")
            self.assert_refused_and_unchanged(Taken, "m", library, "d", "m", kind=kind, level="three")

    def test_new_is_no_member(self):
        for kind in KINDS:
            library = classes()
            for owner in BASES:
                self.assert_refused_and_unchanged(Misfit, "new", library, owner, "new", kind=kind, level="one")

    def test_each_second_declaration(self):
        for root, owner in itertools.permutations(BASES, 2):
            for first, second in itertools.product(KINDS, repeat=2):
                library = classes()
                library.add_member(root, "m", kind=first, level="one")
                if first == second == "method" and owner in BELOW[root]:
                    library.add_member(owner, "m", kind=second, level="two")
                    self.assertEqual(library.owner_of(owner, "m"), owner)
                    self.assertEqual(library.level_of((owner, "m", "call")), "two")
                else:
                    self.assert_refused_and_unchanged(Misfit, "m", library, owner, "m", kind=second, level="two")
                    library.add_member(owner, "n", kind=second, level="two")
                    self.assertEqual(library.owner_of(owner, "n"), owner)

    def test_the_root_stays_the_root(self):
        library = classes()
        library.add_member("d", "m", kind="method", level="one")
        library.add_member("e", "m", kind="method", level="one")
        for owner in "rsbci":
            self.assert_refused_and_unchanged(Misfit, "m", library, owner, "m", kind="method", level="one")

    def test_first_of_several(self):
        library = classes()
        library.add_member("r", "m", kind="field", level="one")
        self.assert_refused_and_unchanged(Unknown, "x", library, "x", "new", kind="field", level="one")
        self.assert_refused_and_unchanged(Unknown, "x", library, "x", "m", kind="method", level="one")
        self.assert_refused_and_unchanged(Taken, "m", library, "r", "m", kind="method", level="one")


if __name__ == "__main__":
    unittest.main()
