"""Points 3 and 4: the stance of every place, owner and through, of given and of later classes."""

import random
import unittest

from tests.making import Chance, act, c, house_of, m, plan_of, row
from tests.plain import Plain, stances
from whomayname.errors import Barred
from whomayname.rules import STANCES


def stance(classes, place, owner, through, packages=(("p", False), ("q", False))):
    return house_of(plan_of(classes, packages=packages)).stance(place, owner, through)


class NineStances(unittest.TestCase):
    def check(self, index, classes, place, owner, through):
        told = stance(classes, place, owner, through)
        self.assertIs(type(told), tuple)
        self.assertEqual(told, STANCES[index])

    def test_own(self):
        self.check(0, [c("a")], "a", "a", "a")
        self.check(0, [c("a"), c("b", "a", package="q")], "a", "a", "b")
        self.check(0, [c("a"), c("b", inside="a"), c("d", "b", inside="b")], "b", "b", "d")

    def test_nested(self):
        self.check(1, [c("a"), c("b", inside="a")], "b", "a", "a")
        self.check(1, [c("a"), c("b", inside="a"), c("d", inside="b"), c("e", "a")], "d", "a", "e")
        self.check(1, [c("a"), c("b", "a", inside="a")], "b", "a", "a")

    def test_around(self):
        self.check(2, [c("a"), c("b", inside="a")], "a", "b", "b")
        self.check(2, [c("a"), c("b", inside="a"), c("d", inside="b"), c("e", "d", package="q")], "a", "d", "e")

    def test_below_in_the_package(self):
        self.check(3, [c("a"), c("b", "a")], "b", "a", "b")
        self.check(3, [c("a"), c("b", "a"), c("d", "b"), c("e", "d", package="q")], "d", "a", "e")
        self.check(3, [c("a"), c("b"), c("d", "ab")], "d", "b", "d")

    def test_below_elsewhere(self):
        self.check(4, [c("a"), c("b", "a", package="q")], "b", "a", "b")
        self.check(4, [c("a"), c("b", "a"), c("d", "b", package="q")], "d", "a", "d")

    def test_heir_in_the_package(self):
        self.check(5, [c("a"), c("b", "a")], "b", "a", "a")
        self.check(5, [c("a"), c("b", "a"), c("d", "a")], "b", "a", "d")
        self.check(5, [c("a"), c("b", "a"), c("d", "b")], "d", "a", "b")

    def test_heir_elsewhere(self):
        self.check(6, [c("a"), c("b", "a", package="q")], "b", "a", "a")
        self.check(6, [c("a"), c("b", "a", package="q"), c("d", "a", package="q")], "b", "a", "d")

    def test_package(self):
        self.check(7, [c("a"), c("b")], "b", "a", "a")
        self.check(7, [c("a"), c("b", "a")], "a", "b", "b")
        self.check(7, [c("e"), c("a", inside="e"), c("b", inside="e"), c("d", inside="b")], "d", "a", "a")

    def test_any(self):
        self.check(8, [c("a"), c("b", package="q")], "b", "a", "a")
        self.check(8, [c("a"), c("b", "a", package="q")], "a", "b", "b")
        self.check(8, [c("a"), c("b", package="q"), c("d", inside="a")], "b", "d", "d")


class ClassesAround(unittest.TestCase):
    """What a class around the place brings."""

    # b is below a; d lies in b, e in d; f is below b, g below a.
    classes = [c("a"), c("b", "a", package="q"), c("d", inside="b"), c("e", inside="d"), c("f", "b"), c("g", "a")]

    def check(self, index, place, owner, through):
        self.assertEqual(stance(self.classes, place, owner, through), STANCES[index], (place, owner, through))

    def test_below_needs_a_through_that_is_below_the_same_class(self):
        for place in "de":
            self.check(4, place, "a", "b")
            self.check(4, place, "a", "f")
            self.check(6, place, "a", "a")
            self.check(6, place, "a", "g")

    def test_one_class_around_is_enough(self):
        classes = [c("a"), c("b", "a"), c("d", "a", inside="b"), c("e", "b", package="q")]
        # e is below b, which is around d, though not below d.
        self.assertEqual(stance(classes, "d", "a", "e"), STANCES[3])
        self.assertEqual(stance(classes, "d", "a", "d"), STANCES[3])
        self.assertEqual(stance(classes, "d", "b", "e"), STANCES[1])

    def test_a_class_inside_brings_nothing(self):
        classes = [c("a"), c("b"), c("d", "a", inside="b")]
        self.assertEqual(stance(classes, "b", "a", "d"), STANCES[7])

    def test_nested_in_a_class_below(self):
        classes = [c("a", package="q"), c("b", "a"), c("d", inside="b"), c("e", "d")]
        self.assertEqual(stance(classes, "d", "a", "b"), STANCES[4])
        self.assertEqual(stance(classes, "e", "a", "a"), STANCES[8])

    def test_package_of_a_nested_class(self):
        classes = [c("a"), c("b", inside="a"), c("d", inside="b"), c("e"), c("f", package="q")]
        self.assertEqual(stance(classes, "d", "e", "e"), STANCES[7])
        self.assertEqual(stance(classes, "e", "d", "d"), STANCES[7])
        self.assertEqual(stance(classes, "f", "d", "d"), STANCES[8])

    def test_sealing_does_not_count(self):
        sealed = (("p", True), ("q", True))
        self.assertEqual(stance([c("a"), c("b")], "b", "a", "a", sealed), STANCES[7])
        self.assertEqual(stance([c("a"), c("b", package="q")], "b", "a", "a", sealed), STANCES[8])


class LargeLibraries(unittest.TestCase):
    def test_all_seven_words_in_libraries_by_chance(self):
        chance = Chance(random.Random(31), classes=7)
        found = {}
        for _ in range(150):
            plan = chance.plan()
            house, plain = house_of(plan), Plain(plan)
            for place in plain.bases:
                for owner in plain.bases:
                    for through in plain.bases:
                        if owner in plain.up(through):
                            told = house.stance(place, owner, through)
                            self.assertEqual(told, plain.stance(place, owner, through), (plan, place, owner, through))
                            found[told] = True
        self.assertEqual(set(found), set(STANCES))

    def test_plain_reading_knows_the_same_stances(self):
        self.assertEqual(tuple(stances()), STANCES)


class LaterClasses(unittest.TestCase):
    """The stance of a later class is told by the error that refuses its act."""

    # Nothing but a body's own level lets anything.
    book = (("no", "-"), ("own", "own"), ("any", "any"))

    def check(self, index, rows, place, name, through, target, members=(), level="no"):
        plan = plan_of([c("a", maker="any"), c("b", "a", maker="any", package="q"), c("d", maker="any", inside="a")],
                       members or [m("a", "fa", "no"), m("b", "fb", "no"), m("a", "sa", "no"), m("d", "sd", "no")],
                       book=self.book)
        way = "read" if name.startswith("f") else "call"
        with self.assertRaises(Barred) as caught:
            house_of(plan).check(rows + [act(place, way, name, through, target)])
        self.assertEqual(caught.exception.why, (level, STANCES[index]))

    def test_below(self):
        self.check(3, [row("x", "a")], "x", "fa", "x", "x")
        self.check(3, [row("x", "a")], "x", "sa", "x", None)
        self.check(3, [row("x", "b", "q"), row("y", "x", "p")], "y", "fa", "y", "y")
        self.check(4, [row("x", "a", "q")], "x", "fa", "x", "x")
        self.check(4, [row("x", "a", "far")], "x", "fa", "x", "x")
        self.check(4, [row("x", "b", "far")], "x", "fa", "x", "x")
        self.check(4, [row("x", "b", "p"), row("y", "x", "p")], "y", "fb", "y", "y")
        self.check(3, [row("x", "a"), row("y", "x", "far")], "x", "fa", "y", "y")

    def test_below_by_a_class_around(self):
        rows = [row("x", "a"), row("y", inside="x"), row("z", inside="y"), row("w", "x", "q")]
        self.check(3, rows, "z", "fa", "x", "x")
        self.check(3, rows, "z", "fa", "w", "w")
        self.check(5, rows, "z", "fa", "a", "x")
        self.check(7, rows[:3] + [row("v")], "v", "fa", "x", "x")

    def test_heir(self):
        self.check(5, [row("x", "a")], "x", "fa", "a", "a")
        self.check(5, [row("x", "a")], "x", "fa", "b", "b")
        self.check(5, [row("x", "a"), row("y", "a")], "x", "fa", "y", "y")
        self.check(6, [row("x", "b", "q")], "x", "fa", "b", "b")
        self.check(6, [row("x", "b", "far")], "x", "fa", "a", "b")

    def test_package_and_any(self):
        self.check(7, [row("x")], "x", "fa", "a", "a")
        self.check(7, [row("x")], "x", "sd", "d", None)
        self.check(8, [row("x", package="q")], "x", "sd", "d", None)
        self.check(8, [row("x", package="q")], "x", "fa", "a", "b")
        self.check(8, [row("x", package="far")], "x", "fa", "a", "b")
        self.check(7, [row("x", package="q")], "x", "fb", "b", "b")

    def test_later_owner(self):
        """Of a body of x with a level that lets nothing but its own class; y and z may be anywhere."""
        members = [m("a", "k", "own")]
        book = (("own", "below"), ("any", "any"))
        plan = plan_of([c("a", maker="any")], members, book=book)
        x = row("x", "a", bodies=[("k", "own")])
        refused = (
            (2, [row("y"), ("class", "x", None, "y", ("a",), (("k", "own"),))], "y", "x"),
            (5, [x, row("y", "x")], "y", "x"),
            (5, [x, row("y", "x"), row("z", "x", "far")], "y", "z"),
            (5, [x, row("y", "x"), row("z", inside="y")], "z", "x"),
            (6, [x, row("y", "x", "far")], "y", "x"),
            (7, [x, row("y")], "y", "x"),
            (7, [x, row("y"), row("z", inside="y")], "z", "x"),
            (8, [x, row("y", package="far")], "y", "x"),
            (8, [x, row("y", package="q"), row("z", "x", "q")], "y", "x"),
        )
        for index, rows, place, through in refused:
            with self.assertRaises(Barred) as caught:
                house_of(plan).check(rows + [act(place, "call", "k", through, through)])
            self.assertEqual(caught.exception.why, ("own", STANCES[index]), rows)
            self.assertEqual(caught.exception.what, ("x", "k", "call"))
        let = (
            ([x], "x", "x"),
            ([x, row("y", "x", "far")], "x", "y"),
            ([x, row("y", inside="x")], "y", "x"),
            ([x, row("y", "x", "far")], "y", "y"),
            ([x, row("y", "x", "far"), row("z", inside="y")], "z", "y"),
        )
        for rows, place, through in let:
            self.assertIs(house_of(plan).accepts(rows + [act(place, "call", "k", through, through)]), True, rows)

    def test_two_unknown_packages_are_two(self):
        book = (("no", "below"), ("any", "any"))
        plan = plan_of([c("a", maker="any")], [m("a", "k", "no")], book=book)
        x = row("x", "a", "far", bodies=[("k", "no")])
        for package, index in (("far", 7), ("farther", 8)):
            with self.assertRaises(Barred) as caught:
                house_of(plan).check([x, row("y", package=package), act("y", "call", "k", "x", "x")])
            self.assertEqual(caught.exception.why, ("no", STANCES[index]))


if __name__ == "__main__":
    unittest.main()
