"""Points 7 and 14: packages, classes, nesting and bases; points 1 and 2 for these."""

import itertools
import unittest

from tests.support import Refusals, seen
from whomayname.errors import Joined, Taken, Unknown
from whomayname.library import Library, Lineage, Packages


def above(bases, name):
    """A class and all that it is below, from a dict of bases."""
    found = {name}
    for base in bases[name]:
        found |= above(bases, base)
    return found


class Package(unittest.TestCase, Refusals):
    kinds = (Packages, Library)

    def test_sealed_or_not(self):
        for kind in self.kinds:
            packages = kind()
            self.assertIsNone(packages.add_package("a", sealed=True))
            packages.add_package("b", sealed=False)
            packages.add_package("c")
            self.assertIs(packages.is_sealed("a"), True)
            self.assertIs(packages.is_sealed("b"), False)
            self.assertIs(packages.is_sealed("c"), False)

    def test_unknown_is_not_sealed(self):
        for kind in self.kinds:
            packages = kind()
            self.assertIs(packages.is_sealed("a"), False)
            packages.add_package("a", sealed=True)
            self.assertIs(packages.is_sealed("b"), False)

    def test_asking_adds_nothing(self):
        packages = Packages()
        packages.is_sealed("a")
        packages.add_package("a", sealed=True)
        self.assertIs(packages.is_sealed("a"), True)

    def test_taken(self):
        for kind in self.kinds:
            for before, after in itertools.product((False, True), repeat=2):
                packages = kind()
                packages.add_package("a", sealed=before)
                self.assert_refused(Taken, "a", packages.add_package, "a", sealed=after)
                self.assert_refused(Taken, "a", packages.add_package, "a")
                self.assertIs(packages.is_sealed("a"), before)

    def test_beside_each_other(self):
        for kind in self.kinds:
            one, two = kind(), kind()
            one.add_package("a", sealed=True)
            self.assertIs(two.is_sealed("a"), False)
            two.add_package("a")
            self.assertIs(one.is_sealed("a"), True)

    def test_beyond_the_limits(self):
        packages = Packages()
        names = [f"averylongpackagename{at}" for at in range(40)]
        for at, name in enumerate(names):
            packages.add_package(name, sealed=at % 3 == 0)
        self.assertEqual([packages.is_sealed(name) for name in names], [at % 3 == 0 for at in range(40)])


# Name, inside, bases.
TREE = (
    ("a", None, ()),
    ("b", None, ("a",)),
    ("c", "a", ()),
    ("d", "c", ("b",)),
    ("e", None, ()),
    ("f", "e", ("d", "c", "e")),
    ("g", "f", ("f",)),
    ("h", "a", ("a",)),
    ("i", "g", ()),
    ("j", "i", ("g", "i")),
    ("k", None, ("h",)),
    ("l", "k", ("c",)),
    ("m", None, ("k", "e", "i")),
)


def linked(rows):
    lineage = Lineage()
    for name, inside, bases in rows:
        lineage.link(name, inside=inside, bases=bases)
    return lineage


def added(rows):
    library = Library()
    library.add_package("p")
    for name, inside, bases in rows:
        package = "p" if inside is None else None
        library.add_class(name, maker="public", package=package, inside=inside, bases=bases)
    return library


class Classes(unittest.TestCase, Refusals):
    def makers(self):
        return (linked, added)

    def test_is_below_of_every_two(self):
        bases = {name: its for name, _, its in TREE}
        for make in self.makers():
            made = make(TREE)
            for lower, upper in itertools.product(bases, repeat=2):
                self.assertIs(made.is_below(lower, upper), upper in above(bases, lower), (lower, upper))

    def test_is_below_by_hand(self):
        lineage = linked([("a", None, ()), ("b", None, ("a",)), ("c", "a", ()), ("d", "b", ("b", "c"))])
        below = {("a", "a"), ("b", "a"), ("b", "b"), ("c", "c"),
                 ("d", "a"), ("d", "b"), ("d", "c"), ("d", "d")}
        for lower, upper in itertools.product("abcd", repeat=2):
            self.assertIs(lineage.is_below(lower, upper), (lower, upper) in below, (lower, upper))

    def test_nesting_is_not_being_below(self):
        lineage = linked([("a", None, ()), ("b", "a", ()), ("c", "b", ())])
        for lower, upper in itertools.permutations("abc", 2):
            self.assertIs(lineage.is_below(lower, upper), False)

    def test_is_below_stays_after_later_classes(self):
        lineage = linked([("a", None, ()), ("b", None, ())])
        self.assertIs(lineage.is_below("b", "a"), False)
        lineage.link("c", bases=("a", "b"))
        self.assertIs(lineage.is_below("b", "a"), False)
        self.assertIs(lineage.is_below("a", "c"), False)

    def test_classes_in_order(self):
        for make in self.makers():
            self.assertEqual(make([]).classes, [])
            for order in ("abc", "cab", "bca"):
                self.assertEqual(make([(name, None, ()) for name in order]).classes, list(order))
            self.assertEqual(make(TREE).classes, [name for name, _, _ in TREE])

    def test_told_list_is_a_copy(self):
        for make in self.makers():
            made = make([("a", None, ()), ("b", None, ("a",))])
            told = made.classes
            self.assertIs(type(told), list)
            told.append("c")
            told[0] = "z"
            self.assertEqual(made.classes, ["a", "b"])
            self.assertIs(made.is_below("b", "a"), True)
            made.link("c")
            self.assertEqual(made.classes, ["a", "b", "c"])
            told.clear()
            self.assertEqual(made.classes, ["a", "b", "c"])

    def test_passed_list_is_copied(self):
        for make in self.makers():
            made = make([("a", None, ()), ("b", None, ())])
            bases = ["a"]
            if make is linked:
                made.link("c", bases=bases)
            else:
                made.add_class("c", maker="public", package="p", bases=bases)
                made.add_member("a", "m", kind="method", level="public")
                made.add_member("b", "n", kind="method", level="public")
            bases[0] = "b"
            self.assertIs(made.is_below("c", "a"), True)
            self.assertIs(made.is_below("c", "b"), False)
            if make is added:
                self.assertEqual([made.owner_of("c", "m"), made.owner_of("c", "n")], ["a", None])

    def test_without_keywords(self):
        lineage = Lineage()
        self.assertIsNone(lineage.link("a"))
        self.assertEqual(lineage.classes, ["a"])

    def test_beside_each_other(self):
        for make in self.makers():
            one, two = make([("a", None, ())]), make([])
            self.assertEqual(two.classes, [])
            two.link("b")
            two.link("a", bases=("b",))
            self.assertIs(two.is_below("a", "b"), True)
            self.assertIs(one.is_below("a", "b"), False)
            self.assertEqual(one.classes, ["a"])

    def test_beyond_the_limits(self):
        names = [f"averylongclassname{at}" for at in range(60)]
        for make in self.makers():
            rows = [(names[0], None, ())]
            rows.extend((low, up, (up,)) for up, low in zip(names, names[1:]))
            made = make(rows)
            self.assertEqual(made.classes, names)
            self.assertIs(made.is_below(names[-1], names[0]), True)
            self.assertIs(made.is_below(names[0], names[-1]), False)

    def test_many_bases(self):
        rows = [(name, None, ()) for name in "abcdef"]
        lineage = linked(rows + [("g", None, tuple("fedcba"))])
        for name in "abcdef":
            self.assertIs(lineage.is_below("g", name), True)


# a <- b <- d, a <- c, e alone; Joined bases share a.
BASES = {"a": (), "b": ("a",), "c": ("a",), "d": ("b",), "e": (), "f": ("d", "e")}


def due(name, inside, bases):
    """The first error that is due over BASES, as (error, what), or None."""
    if name in BASES:
        return Taken, name
    if inside not in (None, *BASES):
        return Unknown, inside
    for base in bases:
        if base not in BASES:
            return Unknown, base
    covered = set()
    for base in bases:
        if above(BASES, base) & covered:
            return Joined, base
        covered |= above(BASES, base)
    return None


class LinkErrors(unittest.TestCase, Refusals):
    def new(self):
        return linked([(name, None, bases) for name, bases in BASES.items()])

    def assert_refused_and_unchanged(self, error, what, name, **more):
        lineage = self.new()
        self.assert_refused(error, what, lineage.link, name, **more)
        self.assertEqual(lineage.classes, list(BASES))
        for lower, upper in itertools.product(BASES, repeat=2):
            self.assertIs(lineage.is_below(lower, upper), upper in above(BASES, lower))
        if name not in BASES:
            lineage.link(name, inside="e", bases=("e",))
            self.assertEqual(lineage.classes, list(BASES) + [name])
            self.assertIs(lineage.is_below(name, "e"), True)
            self.assertIs(lineage.is_below(name, "a"), False)

    def test_each_alone(self):
        self.assert_refused_and_unchanged(Taken, "a", "a")
        self.assert_refused_and_unchanged(Taken, "f", "f", inside="a", bases=("e",))
        self.assert_refused_and_unchanged(Unknown, "x", "z", inside="x")
        self.assert_refused_and_unchanged(Unknown, "z", "z", inside="z")
        self.assert_refused_and_unchanged(Unknown, "x", "z", bases=("x",))
        self.assert_refused_and_unchanged(Unknown, "x", "z", bases=("a", "x", "y"))
        self.assert_refused_and_unchanged(Unknown, "z", "z", bases=("z",))
        self.assert_refused_and_unchanged(Joined, "e", "z", bases=("e", "e"))
        self.assert_refused_and_unchanged(Joined, "d", "z", bases=("e", "a", "d"))
        self.assert_refused_and_unchanged(Joined, "a", "z", bases=("d", "a"))
        self.assert_refused_and_unchanged(Joined, "c", "z", bases=("b", "c"))
        self.assert_refused_and_unchanged(Joined, "e", "z", bases=("f", "e"))
        self.assert_refused_and_unchanged(Joined, "f", "z", bases=("e", "f"))

    def test_first_of_several(self):
        self.assert_refused_and_unchanged(Taken, "a", "a", inside="x", bases=("y", "e", "e"))
        self.assert_refused_and_unchanged(Taken, "a", "a", inside="a", bases=("a", "a"))
        self.assert_refused_and_unchanged(Unknown, "x", "z", inside="x", bases=("y", "e", "e"))
        self.assert_refused_and_unchanged(Unknown, "y", "z", inside="a", bases=("e", "e", "y", "x"))
        self.assert_refused_and_unchanged(Joined, "c", "z", inside="a", bases=("b", "c", "d", "b"))
        self.assert_refused_and_unchanged(Joined, "b", "z", bases=("e", "b", "b", "e"))

    def test_all_bases_up_to_three(self):
        for count in range(4):
            for bases in itertools.product((*BASES, "x"), repeat=count):
                for inside in (None, "c", "y"):
                    lineage = self.new()
                    error = due("z", inside, bases)
                    if error is None:
                        lineage.link("z", inside=inside, bases=bases)
                        upper = set().union({"z"}, *[above(BASES, base) for base in bases])
                        self.assertEqual({name for name in lineage.classes if lineage.is_below("z", name)}, upper)
                    else:
                        self.assert_refused(*error, lineage.link, "z", inside=inside, bases=bases)
                        self.assertEqual(lineage.classes, list(BASES))


class AddClass(unittest.TestCase, Refusals):
    def new(self):
        library = Library()
        library.add_package("p")
        library.add_package("q", sealed=True)
        for name, bases in BASES.items():
            library.add_class(name, maker="public", package="p", bases=bases)
        return library

    def assert_refused_and_unchanged(self, error, what, name, **more):
        library = self.new()
        names = ("z", "m", "new", "p", "q", "r", *BASES)
        before = seen(library, names)
        self.assert_refused(error, what, library.add_class, name, maker="own", **more)
        self.assertEqual(seen(library, names), before)
        if name not in BASES:
            library.add_class(name, maker="private", package="q", bases=("e",))
            self.assertEqual(library.classes, list(BASES) + [name])
            self.assertEqual(library.level_of((name, "new", "make")), "private")
            self.assertIs(library.is_below(name, "a"), False)
        self.assertEqual(len(library.marks), len(library.classes))

    def test_each_alone(self):
        self.assert_refused_and_unchanged(Taken, "a", "a", package="p")
        self.assert_refused_and_unchanged(Taken, "a", "a", inside="b")
        self.assert_refused_and_unchanged(Unknown, "x", "z", inside="x")
        self.assert_refused_and_unchanged(Unknown, "z", "z", inside="z")
        self.assert_refused_and_unchanged(Unknown, "r", "z", package="r")
        self.assert_refused_and_unchanged(Unknown, "a", "z", package="a")
        self.assert_refused_and_unchanged(Unknown, "x", "z", package="p", bases=("x",))
        self.assert_refused_and_unchanged(Unknown, "x", "z", inside="a", bases=("e", "x", "y"))
        self.assert_refused_and_unchanged(Unknown, "p", "z", package="p", bases=("p",))
        self.assert_refused_and_unchanged(Joined, "e", "z", package="q", bases=("e", "e"))
        self.assert_refused_and_unchanged(Joined, "c", "z", inside="a", bases=("e", "b", "c"))
        self.assert_refused_and_unchanged(Joined, "d", "z", package="p", bases=("b", "d"))
        self.assert_refused_and_unchanged(Joined, "b", "z", package="p", bases=("d", "b"))

    def test_first_of_several(self):
        self.assert_refused_and_unchanged(Taken, "a", "a", package="r", bases=("x", "e", "e"))
        self.assert_refused_and_unchanged(Taken, "a", "a", inside="x", bases=("x", "e", "e"))
        self.assert_refused_and_unchanged(Unknown, "x", "z", inside="x", bases=("y", "e", "e"))
        self.assert_refused_and_unchanged(Unknown, "r", "z", package="r", bases=("y",))
        self.assert_refused_and_unchanged(Unknown, "r", "z", package="r", bases=("e", "e"))
        self.assert_refused_and_unchanged(Unknown, "y", "z", package="p", bases=("e", "e", "y"))

    def test_a_class_lies_in_some_package(self):
        self.assert_refused_and_unchanged(Unknown, None, "z")

    def test_all_bases_up_to_three(self):
        for count in range(4):
            for bases in itertools.product((*BASES, "x"), repeat=count):
                library = self.new()
                error = due("z", None, bases)
                if error is None:
                    library.add_class("z", maker="own", package="p", bases=bases)
                    self.assertEqual(library.level_of(("z", "new", "make")), "own")
                else:
                    self.assert_refused(*error, library.add_class, "z", maker="own", package="p", bases=bases)
                    self.assertEqual(library.classes, list(BASES))
                    self.assertEqual(len(library.marks), len(BASES))

    def test_a_sealed_package_takes_classes_of_the_library(self):
        library = self.new()
        self.assertIsNone(library.add_class("z", maker="public", package="q"))
        library.add_class("y", maker="public", inside="z")
        self.assertEqual(library.classes[-2:], ["z", "y"])

    def test_package_and_nesting(self):
        library = self.new()
        library.add_class("x", maker="public", package="q", bases=("a",))
        library.add_class("y", maker="public", inside="x")
        library.add_class("z", maker="public", inside="y", bases=("e",))
        self.assertEqual([library.package_of(name) for name in "axyz"], ["p", "q", "q", "q"])
        self.assertEqual([library.outer_of(name) for name in "axyz"], [None, None, "x", "y"])
        self.assertEqual([library.bases_of(name) for name in "axyz"], [(), ("a",), (), ("e",)])

    def test_names_of_packages_classes_and_members_do_not_meet(self):
        library = Library()
        library.add_package("a")
        library.add_class("a", maker="public", package="a")
        library.add_member("a", "a", kind="field", level="public")
        library.add_class("new", maker="own", package="a")
        self.assertEqual(library.owner_of("a", "a"), "a")
        self.assertEqual(library.level_of(("new", "new", "make")), "own")


if __name__ == "__main__":
    unittest.main()
