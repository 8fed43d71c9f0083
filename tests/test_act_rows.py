"""Points 10, 13 and 15: act rows, in all ways, with all targets, each error alone and the first of several."""

import itertools
import unittest

from tests.making import act, c, house_of, m, plan_of, row
from tests.support import Refusals, seen_of_house
from whomayname.errors import Barred, Misfit, Unknown
from whomayname.rules import STANCES

WAYS = ("read", "write", "call", "make", "elder")
MEMBERS = ("f", "k", "s", "fe", "new", "zz")
GIVEN = ("a", "b", "d", "e")

# x is below b and e, y below x, z alone. b is below a, d below a.
CLASSES = [row("x", "be"), row("y", "x", bodies=[("k", "public")]), row("z")]
KNOWN = (*GIVEN, "x", "y", "z")
UP = {"a": "a", "b": "ba", "d": "da", "e": "e", "x": "xbae", "y": "yxbae", "z": "z"}
BASES = {"x": "be", "y": "x", "z": ""}


def house():
    """Everything is let."""
    return house_of(plan_of(
        [c("a"), c("b", "a"), c("d", "a", package="q"), c("e")],
        [m("a", "f"), m("a", "k"), m("a", "s"), m("e", "fe"), m("d", "k")],
    ))


def is_naming(place, way, name, through):
    roots = {"f": "a", "k": "a", "s": "a", "fe": "e"}
    has = name in roots and roots[name] in UP[through]
    return (
        way in ("read", "write") and name in ("f", "fe") and has
        or way == "call" and name in ("k", "s") and has
        or way == "make" and name == "new"
        or way == "elder" and name == "k" and has and through in BASES[place]
    )


def fits(place, way, name, through, target):
    if way == "make" or name == "s":
        return target is None
    return target is not None and (place if way == "elder" else through) in UP[target]


class AllActs(unittest.TestCase, Refusals):
    def test_every_act(self):
        made = house()
        accepted = 0
        for place, way, name, through in itertools.product("xyz", WAYS, MEMBERS, KNOWN):
            for target in (None, *KNOWN):
                rows = CLASSES + [act(place, way, name, through, target)]
                if is_naming(place, way, name, through) and fits(place, way, name, through, target):
                    self.assertIs(made.accepts(rows), True, rows)
                    accepted += 1
                else:
                    self.assert_program_refused(made, rows, Misfit, 3, name)
        # For each of three places: 12 pairs of through and target for f, read and written, and for k; 6 for fe;
        # s through 5 classes, 7 makers. In all, 3 elder calls.
        self.assertEqual(accepted, 3 * (2 * 12 + 2 * 6 + 12 + 5 + 7) + 3)

    def test_every_unknown(self):
        made = house()
        for place, way, name, through in itertools.product((*GIVEN, "x", "w"), WAYS, ("f", "new"), ("a", "w", "v")):
            for target in (None, "a", "u"):
                rows = CLASSES + [act(place, way, name, through, target)]
                unknown = place if place not in BASES else through if through not in UP else target
                if unknown is not None and unknown not in UP or place not in BASES:
                    self.assert_program_refused(made, rows, Unknown, 3, unknown)


class ByHand(unittest.TestCase, Refusals):
    def test_accepted(self):
        made = house()
        for rows in (
            [row("x"), act("x", "read", "f", "a", "a"), act("x", "write", "f", "a", "b")],
            [row("x", "a"), act("x", "call", "k", "x", "x"), act("x", "elder", "k", "a", "x")],
            [row("x", "a"), row("y", "x"), act("x", "elder", "k", "a", "y"), act("y", "elder", "k", "x", "y")],
            [row("x"), act("x", "call", "s", "d", None), act("x", "make", "new", "x", None)],
            [row("x", "d"), row("y", inside="x"), act("y", "call", "s", "x", None), act("y", "read", "f", "d", "x")],
            [row("x"), act("x", "make", "new", "a", None), row("y", "a"), act("x", "make", "new", "y", None)],
        ):
            self.assert_accepted(made, rows)

    def test_misfit(self):
        made = house()
        x = [row("x", "a"), row("y", "x")]
        for last in (
            act("x", "read", "f", "b", "a"), act("x", "read", "f", "x", "a"), act("x", "read", "f", "y", "x"),
            act("x", "read", "f", "a", None), act("x", "read", "f", "a", "e"), act("x", "call", "f", "a", "a"),
            act("x", "call", "k", "a", None), act("x", "call", "s", "a", "a"), act("x", "make", "new", "a", "a"),
            act("x", "make", "k", "a", None), act("x", "call", "new", "a", None), act("x", "elder", "k", "b", "x"),
            act("x", "elder", "k", "a", "a"), act("x", "elder", "k", "a", None), act("y", "elder", "k", "x", "x"),
            act("y", "elder", "k", "a", "y"), act("x", "elder", "s", "a", None), act("x", "elder", "f", "a", "x"),
            act("x", "elder", "new", "a", None), act("x", "read", "k", "a", "a"), act("x", "read", "fe", "a", "a"),
            act("x", "other", "f", "a", "a"), act("x", "read", "zz", "a", "a"), act("x", "make", "new", "a", "x"),
        ):
            self.assert_program_refused(made, x + [last], Misfit, 2, last[3])

    def test_unknown(self):
        made = house()
        x = [row("x")]
        for last, what in (
            (act("a", "read", "f", "a", "a"), "a"), (act("y", "read", "f", "a", "a"), "y"),
            (act("x", "read", "f", "y", "a"), "y"), (act("x", "read", "f", "a", "y"), "y"),
            (act("x", "make", "new", "p", None), "p"), (act("x", "call", "k", "a", "new"), "new"),
        ):
            self.assert_program_refused(made, x + [last], Unknown, 1, what)
        self.assert_program_refused(made, [act("x", "make", "new", "a", None), row("x")], Unknown, 0, "x")
        later = [row("x"), act("x", "make", "new", "y", None), row("y")]
        self.assert_program_refused(made, later, Unknown, 1, "y")

    def test_first_of_several(self):
        made = house_of(plan_of([c("a")], [m("a", "f", "private")]))
        x = [row("x")]
        self.assert_program_refused(made, x + [act("y", "read", "zz", "w", "v")], Unknown, 1, "y")
        self.assert_program_refused(made, x + [act("x", "read", "zz", "w", "v")], Unknown, 1, "w")
        self.assert_program_refused(made, x + [act("x", "read", "zz", "a", "v")], Unknown, 1, "v")
        self.assert_program_refused(made, x + [act("x", "read", "f", "a", "x")], Misfit, 1, "f")
        self.assert_program_refused(made, x + [act("x", "read", "f", "a", None)], Misfit, 1, "f")
        self.assert_program_refused(made, x + [act("x", "read", "f", "x", "x")], Misfit, 1, "f")
        self.assert_program_refused(made, x + [act("x", "read", "f", "a", "a")], Barred, 1, ("a", "f", "read"),
                                    ("private", STANCES[7]))
        two = x + [act("x", "read", "f", "a", "a"), act("x", "read", "zz", "a", "a")]
        self.assert_program_refused(made, two, Barred, 1, ("a", "f", "read"), ("private", STANCES[7]))


class Lets(unittest.TestCase, Refusals):
    """Each way asks the rule of its own mark's level."""

    book = (("rd", "-"), ("wr", "-"), ("cl", "-"), ("st", "-"), ("mk", "-"), ("low", "-"), ("any", "any"))
    acts = {
        "rd": (act("x", "read", "f", "a", "a"), ("a", "f", "read"), STANCES[5]),
        "wr": (act("x", "write", "f", "x", "x"), ("a", "f", "write"), STANCES[3]),
        "cl": (act("x", "call", "k", "a", "b"), ("a", "k", "call"), STANCES[5]),
        "st": (act("x", "call", "s", "x", None), ("a", "s", "call"), STANCES[3]),
        "mk": (act("x", "make", "new", "b", None), ("b", "new", "make"), STANCES[7]),
        "low": (act("x", "call", "k", "b", "b"), ("b", "k", "call"), STANCES[7]),
    }

    def house(self, let):
        book = [(level, "any" if level in let else rule) for level, rule in self.book]
        return house_of(plan_of(
            [c("a", maker="any"), c("b", "a", maker="mk")],
            [m("a", "f", "rd", write="wr"), m("a", "k", "cl"), m("a", "s", "st"), m("b", "k", "low")], book=book,
        ))

    def test_each_way(self):
        for level, (last, mark, stance) in self.acts.items():
            rows = [row("x", "a"), last]
            self.assert_program_refused(self.house(()), rows, Barred, 1, mark, (level, stance))
            self.assert_accepted(self.house((level,)), rows)
            others = [other for other in self.acts if other != level]
            self.assert_program_refused(self.house(others), rows, Barred, 1, mark, (level, stance))

    def test_elder(self):
        rows = [row("x", "a", "q"), row("y", "x"), act("y", "elder", "k", "x", "y")]
        self.assert_program_refused(self.house(()), rows, Barred, 2, ("a", "k", "call"), ("cl", STANCES[3]))
        self.assert_accepted(self.house(("cl",)), rows)
        rows = [row("x", "a", "q"), row("y", "x"), act("x", "elder", "k", "a", "y")]
        self.assert_program_refused(self.house(()), rows, Barred, 2, ("a", "k", "call"), ("cl", STANCES[4]))
        rows = [row("x", "b"), act("x", "elder", "k", "b", "x")]
        self.assert_program_refused(self.house(("mk",)), rows, Barred, 1, ("b", "k", "call"), ("low", STANCES[3]))
        self.assert_accepted(self.house(("mk", "low")), rows)

    def test_elder_of_a_later_body(self):
        made = self.house(("cl",))
        rows = [row("x", "a", bodies=[("k", "cl")]), row("y", "x", "q")]
        self.assert_accepted(made, rows + [act("y", "elder", "k", "x", "y")])
        book = (("low", "below&package"), ("any", "any"))
        made = house_of(plan_of([c("a", maker="any")], [m("a", "k", "low")], book=book))
        rows = [row("x", "a", bodies=[("k", "low")]), row("y", "x", "q")]
        self.assert_program_refused(made, rows + [act("y", "elder", "k", "x", "y")], Barred, 2, ("x", "k", "call"),
                                    ("low", STANCES[4]))

    def test_the_declaration_is_that_of_through(self):
        made = self.house(("cl", "mk"))
        rows = [row("x", "b"), row("y", "x", "far")]
        self.assert_accepted(made, rows + [act("y", "call", "k", "a", "b"), act("y", "call", "k", "a", "y")])
        self.assert_program_refused(made, rows + [act("y", "call", "k", "x", "y")], Barred, 2, ("b", "k", "call"),
                                    ("low", STANCES[6]))

    def test_maker_of_a_later_class(self):
        made = self.house(())
        rows = [row("x"), row("y", package="q"), act("x", "make", "new", "y", None), row("z", "y"),
                act("z", "make", "new", "y", None), act("y", "make", "new", "z", None)]
        self.assert_accepted(made, rows)
        self.assert_program_refused(made, rows + [act("y", "make", "new", "b", None)], Barred, 6,
                                    ("b", "new", "make"), ("mk", STANCES[8]))


if __name__ == "__main__":
    unittest.main()
