"""Points 7, 8, 13 and 14: class rows, each error alone and the first of several, and bodies."""

import unittest

from tests.making import act, c, house_of, m, plan_of, row
from tests.support import Refusals, seen_of_house
from whomayname.errors import Barred, Joined, Misfit, Narrow, Sealed, Taken, Unknown
from whomayname.rules import STANCES

BELOW, FAR_BELOW = STANCES[3], STANCES[4]
PACKAGES = (("p", False), ("q", False), ("s", True))
NEW = "new"


class OneClass(unittest.TestCase, Refusals):
    """a, b below a, d inside a, e; e's maker is for its package, g's for nobody else."""

    def house(self):
        return house_of(plan_of(
            [c("a"), c("b", "a"), c("d", inside="a"), c("e", maker="package"), c("g", maker="private"),
             c("h", "b", package="s", maker="protected"), c("i", maker="package", package="s")],
            packages=PACKAGES,
        ))

    def refused(self, rows, error, what, at=0, why=None):
        self.assert_program_refused(self.house(), rows, error, at, what, why)

    def test_accepted(self):
        house = self.house()
        for rows in (
            [], [row("x")], [row("x", package="far")], [row("x", "a", "q")], [row("x", "ae")], [row("x", "d")],
            [row("x", "e"), row("y", "x", "q"), row("z", "yd")], [row("x", "h", "q")],
            [row("x"), row("y", inside="x"), row("z", "e", inside="y"), row("w", "xz", inside="z")],
            [row("x", "h"), row("y", "x", inside="x")], [row("p"), row("new"), row("far", package="far")],
        ):
            self.assert_accepted(house, rows)

    def test_no_classes_at_all(self):
        house = house_of(plan_of(packages=PACKAGES))
        self.assert_accepted(house, [row("x"), row("y", inside="x"), row("z", "xy", "far")])
        self.assert_program_refused(house, [row("x", package="s")], Sealed, 0, "s")

    def test_taken(self):
        for name in "abdgi":
            self.refused([row(name)], Taken, name)
        self.refused([row("x"), row("y"), row("x")], Taken, "x", 2)
        self.refused([row("x"), row("x", package="q", bases="")], Taken, "x", 1)

    def test_unknown_inside(self):
        for inside in ("z", "x", "a", "d", "p"):
            self.refused([row("x", inside=inside)], Unknown, inside)
        self.refused([row("x"), row("y", inside="z"), row("z")], Unknown, "z", 1)

    def test_unknown_base(self):
        self.refused([row("x", "z")], Unknown, "z")
        self.refused([row("x", "x")], Unknown, "x")
        self.refused([row("x", "azy")], Unknown, "z")
        self.refused([row("x"), row("y", "xz"), row("z")], Unknown, "z", 1)

    def test_sealed(self):
        self.refused([row("x", package="s")], Sealed, "s")
        self.refused([row("x"), row("y", "x", "s")], Sealed, "s", 1)

    def test_packages_that_the_library_does_not_have_are_not_sealed(self):
        self.assert_accepted(self.house(), [row("x", package="t"), row("y", package="t"), row("z", package="a")])

    def test_joined(self):
        self.refused([row("x", "aa")], Joined, "a")
        self.refused([row("x", "ba")], Joined, "a")
        self.refused([row("x", "ab")], Joined, "b")
        self.refused([row("x", "deaba")], Joined, "b")
        self.refused([row("x", "a"), row("y", "b"), row("z", "dxy")], Joined, "y", 2)
        self.refused([row("x", "a"), row("y", "xa")], Joined, "a", 1)
        self.refused([row("x", "a"), row("y", "hx")], Joined, "x", 1)

    def test_barred(self):
        self.refused([row("x", "e", "q")], Barred, ("e", NEW, "make"), 0, ("package", FAR_BELOW))
        self.refused([row("x", "g")], Barred, ("g", NEW, "make"), 0, ("private", BELOW))
        self.refused([row("x", "dge")], Barred, ("g", NEW, "make"), 0, ("private", BELOW))
        self.refused([row("x", "dge", "q")], Barred, ("g", NEW, "make"), 0, ("private", FAR_BELOW))
        self.refused([row("x", "deg", "q")], Barred, ("e", NEW, "make"), 0, ("package", FAR_BELOW))
        self.refused([row("x", "i")], Barred, ("i", NEW, "make"), 0, ("package", FAR_BELOW))
        self.refused([row("x", package="q"), row("y", "e", inside="x")], Barred, ("e", NEW, "make"), 1,
                     ("package", FAR_BELOW))
        self.refused([row("x", "a", "q"), row("y", "xe", "q")], Barred, ("e", NEW, "make"), 1,
                     ("package", FAR_BELOW))

    def test_the_maker_of_a_later_class_is_always_let(self):
        book = (("no", "-"), ("far", "below"))
        house = house_of(plan_of([c("a", maker="far"), c("b", maker="no")], book=book))
        rows = [row("x", "a"), row("y", "x", "q"), row("z", "y", "far"), row("w"), row("v", "zw", inside="w")]
        self.assert_accepted(house, rows)
        self.assert_program_refused(house, rows + [row("u", "b")], Barred, 5, ("b", NEW, "make"), ("no", BELOW))

    def test_first_of_two(self):
        self.refused([row("a", inside="z")], Taken, "a")
        self.refused([row("a", "z")], Taken, "a")
        self.refused([row("a", package="s")], Taken, "a")
        self.refused([row("a", "bb")], Taken, "a")
        self.refused([row("a", "g")], Taken, "a")
        self.refused([row("a", bodies=[("k", "none")])], Taken, "a")
        self.refused([row("x", "z", inside="w")], Unknown, "w")
        self.refused([row("x", "aa", inside="w")], Unknown, "w")
        self.refused([row("x", "g", inside="w")], Unknown, "w")
        self.refused([row("x", "z", "s")], Unknown, "z")
        self.refused([row("x", "aaz")], Unknown, "z")
        self.refused([row("x", "gz")], Unknown, "z")
        self.refused([row("x", "aa", "s")], Sealed, "s")
        self.refused([row("x", "g", "s")], Sealed, "s")
        self.refused([row("x", "", "s", bodies=[("k", "none")])], Sealed, "s")
        self.refused([row("x", "gaa")], Joined, "a")
        self.refused([row("x", "aa", bodies=[("k", "none")])], Joined, "a")
        self.refused([row("x", "g", bodies=[("k", "none")])], Barred, ("g", NEW, "make"), 0, ("private", BELOW))

    def test_first_of_all(self):
        bodies = [("k", "none"), ("k", "public")]
        self.refused([row("a", "gzaa", inside="w", bodies=bodies)], Taken, "a")
        self.refused([row("x", "gzaa", inside="w", bodies=bodies)], Unknown, "w")
        self.refused([row("x", "gzaa", "s", bodies=bodies)], Unknown, "z")
        self.refused([row("x", "gaa", "s", bodies=bodies)], Sealed, "s")
        self.refused([row("x", "gaa", bodies=bodies)], Joined, "a")
        self.refused([row("x", "ga", bodies=bodies)], Barred, ("g", NEW, "make"), 0, ("private", BELOW))
        self.refused([row("x", "a", bodies=bodies)], Unknown, "none")

    def test_the_first_refused_row_counts(self):
        self.refused([row("x"), row("a", package="s"), row("y", "z")], Taken, "a", 1)
        self.refused([row("x"), row("y", "z"), row("a")], Unknown, "z", 1)
        self.refused([row("x"), act("x", "make", NEW, "g", None), row("a")], Barred, ("g", NEW, "make"), 1,
                     ("private", STANCES[7]))

    def test_a_refused_class_is_not_known(self):
        house = self.house()
        self.assertIs(house.accepts([row("x", "g")]), False)
        self.assert_accepted(house, [row("x"), row("y")])

    def test_nothing_changes(self):
        house = self.house()
        before = seen_of_house(house)
        for rows in ([row("x", "a"), row("y", inside="x")], [row("x", "a"), row("x")], [row("x", "g")]):
            house.accepts(rows)
            self.assertEqual(seen_of_house(house), before)


class Bodies(unittest.TestCase, Refusals):
    """b is below a, d below b; e is alone in q. k: a, d; n: a; j: b, for its package; o: e, private."""

    def house(self):
        classes = [c("a"), c("b", "a"), c("d", "b"), c("e", package="q"), c("g", "a")]
        members = [
            m("a", "k", "protected"), m("a", "n", "public"), m("b", "j", "package"), m("d", "k", "public"),
            m("e", "o", "private"), m("a", "f"), m("a", "s"), m("e", "t", "protected"), m("g", "h", "private"),
        ]
        return house_of(plan_of(classes, members))

    def refused(self, rows, error, what, at=0, why=None):
        self.assert_program_refused(self.house(), rows, error, at, what, why)

    def one(self, bases, *bodies, package="p"):
        return [row("x", bases, package, bodies=bodies)]

    def test_accepted(self):
        for rows in (
            self.one("a", ("k", "protected")), self.one("a", ("k", "public"), ("n", "public")),
            self.one("a", ("k", "protected"), package="far"), self.one("b", ("j", "package"), ("k", "public")),
            self.one("b", ("j", "protected")), self.one("d", ("k", "public")), self.one("be", ("t", "public")),
            self.one("de", ("t", "public"), ("n", "public"), ("k", "public"), ("j", "public")),
        ):
            self.assert_accepted(self.house(), rows)

    def test_unknown_level(self):
        self.refused(self.one("a", ("k", "none")), Unknown, "none")
        self.refused(self.one("a", ("k", "public"), ("n", "any")), Unknown, "any")

    def test_misfit(self):
        self.refused(self.one("a", ("z", "public")), Misfit, "z")
        self.refused(self.one("", ("k", "public")), Misfit, "k")
        self.refused(self.one("a", ("j", "public")), Misfit, "j")
        self.refused(self.one("a", ("new", "public")), Misfit, "new")
        for name in "fs":
            self.refused(self.one("a", (name, "public")), Misfit, name)
        self.refused(self.one("a", ("k", "public"), ("k", "public")), Misfit, "k")
        self.refused(self.one("a", ("n", "public"), ("k", "public"), ("n", "public")), Misfit, "n")
        self.refused([row("x"), row("y", inside="x", bodies=[("k", "public")])], Misfit, "k", 1)
        self.refused([row("x", "a"), row("y", inside="x", bodies=[("k", "public")])], Misfit, "k", 1)

    def test_barred(self):
        self.refused(self.one("b", ("j", "package"), package="q"), Barred, ("b", "j", "call"), 0,
                     ("package", FAR_BELOW))
        self.refused(self.one("e", ("o", "private"), package="q"), Barred, ("e", "o", "call"), 0, ("private", BELOW))
        self.refused(self.one("g", ("h", "public"), package="q"), Barred, ("g", "h", "call"), 0,
                     ("private", FAR_BELOW))

    def test_narrow(self):
        self.refused(self.one("a", ("k", "package")), Narrow, ("a", "k", "call"))
        self.refused(self.one("a", ("k", "private")), Narrow, ("a", "k", "call"))
        self.refused(self.one("d", ("k", "protected")), Narrow, ("d", "k", "call"))
        self.refused(self.one("b", ("k", "protected"), ("n", "protected")), Narrow, ("a", "n", "call"))
        self.refused(self.one("e", ("t", "package"), package="far"), Narrow, ("e", "t", "call"))

    def test_first_of_several_for_a_body(self):
        self.refused(self.one("a", ("z", "none")), Unknown, "none")
        self.refused(self.one("a", ("k", "public"), ("k", "none")), Unknown, "none")
        self.refused(self.one("e", ("o", "none"), package="q"), Unknown, "none")
        self.refused(self.one("g", ("f", "private"), package="q"), Misfit, "f")
        self.refused(self.one("a", ("k", "public"), ("k", "private")), Misfit, "k")
        self.refused(self.one("b", ("j", "private"), package="q"), Barred, ("b", "j", "call"), 0,
                     ("package", FAR_BELOW))

    def test_the_first_body_with_an_error_counts(self):
        narrow, barred, misfit, unknown = ("k", "package"), ("h", "public"), ("z", "public"), ("n", "none")
        told = {
            narrow: (Narrow, ("a", "k", "call"), None), misfit: (Misfit, "z", None), unknown: (Unknown, "none", None),
            barred: (Barred, ("g", "h", "call"), ("private", BELOW)),
        }
        for first in told:
            for second in told:
                if first != second:
                    error, what, why = told[first]
                    self.refused(self.one("g", first, second), error, what, 0, why)

    def test_bodies_of_methods_of_earlier_rows(self):
        """What x declares is seen and compared, not what a declares."""
        x = row("x", "a", bodies=[("k", "public")])
        self.assert_accepted(self.house(), [x, row("y", "x", "far", bodies=[("k", "public")])])
        self.refused([x, row("y", "x", bodies=[("k", "protected")])], Narrow, ("x", "k", "call"), 1)
        self.refused([x, row("y", "x"), row("z", "y", bodies=[("k", "protected")])], Narrow, ("x", "k", "call"), 2)
        self.assert_accepted(self.house(), [row("x", "a"), row("y", "x", bodies=[("k", "protected")])])
        self.refused([row("x", "a"), row("y", "x", bodies=[("k", "package")])], Narrow, ("a", "k", "call"), 1)

    def test_sight_of_methods_of_earlier_rows(self):
        # A level that is wide for the package is seen in the package only.
        x = row("x", "b", bodies=[("j", "package")])
        self.refused([x, row("y", "x", "q", bodies=[("j", "package")])], Barred, ("x", "j", "call"), 1,
                     ("package", FAR_BELOW))
        self.assert_accepted(self.house(), [x, row("y", "x", bodies=[("j", "package")])])
        self.assert_accepted(self.house(), [x, row("y", "x", inside="x", bodies=[("j", "package")])])
        # A class elsewhere does not see what b declares, but what a class between declares.
        self.refused([row("x", "b"), row("y", "x", "q", bodies=[("j", "public")])], Barred, ("b", "j", "call"), 1,
                     ("package", FAR_BELOW))
        wide = row("x", "b", bodies=[("j", "protected")])
        self.assert_accepted(self.house(), [wide, row("y", "x", "q", bodies=[("j", "protected")])])

    def test_sight_from_inside_the_declaring_class(self):
        book = (("low", "below&package"), ("mid", "nested|package"), ("public", "any"))
        house = house_of(plan_of([c("a")], [m("a", "k", "low")], book=book))
        x = row("x", "a", bodies=[("k", "mid")])
        self.assert_accepted(house, [x, row("y", "x", inside="x", bodies=[("k", "public")])])

    def test_wide_by_rules(self):
        book = (("low", "below"), ("same", "below"), ("across", "package"), ("wide", "below|package"),
                ("public", "any"))
        house = house_of(plan_of([c("a"), c("b", "a")], [m("a", "k", "low"), m("b", "k", "same")], book=book))
        for level, wide in (("low", True), ("same", True), ("across", False), ("wide", True), ("public", True)):
            for base in "ab":
                self.assertIs(house.accepts([row("x", base, "q", bodies=[("k", level)])]), wide, level)

    def test_two_bases(self):
        house = self.house()
        self.assert_accepted(house, [row("x", "be", bodies=[("k", "public"), ("t", "public")])])
        self.assert_program_refused(house, [row("x", "be", bodies=[("k", "public"), ("t", "package")])], Narrow, 0,
                                    ("e", "t", "call"))


if __name__ == "__main__":
    unittest.main()
