"""Points 10 and 11: which namings are uses, without a body and in one."""

import itertools
import unittest

from tests.support import Refusals, seen
from whomayname.errors import Misfit, Unknown
from whomayname.library import Library

WAYS = ("read", "write", "call", "make", "elder")
MEMBERS = ("f", "m", "s", "g", "t", "k", "new", "x")
CLASSES = ("a", "b", "c", "d", "e")
NAMES = (*CLASSES, *MEMBERS)


def library():
    """e is alone; b is below a, c below b, d below c and e. f: field, m, k: methods, s: static of a;
    g: field, t: static of e. b and d declare m again."""
    made = Library()
    made.add_package("p")
    made.add_class("a", maker="one", package="p")
    made.add_class("b", maker="one", package="p", bases=("a",))
    made.add_class("c", maker="one", inside="a", bases=("b",))
    made.add_class("e", maker="one", package="p")
    made.add_class("d", maker="one", package="p", bases=("c", "e"))
    made.add_member("a", "f", kind="field", level="one")
    made.add_member("a", "m", kind="method", level="one")
    made.add_member("a", "k", kind="method", level="one")
    made.add_member("a", "s", kind="static", level="one")
    made.add_member("b", "m", kind="method", level="one")
    made.add_member("d", "m", kind="method", level="one")
    made.add_member("e", "g", kind="field", level="one")
    made.add_member("e", "t", kind="static", level="one")
    return made


HAVE_A = ("a", "b", "c", "d")
HAVE_E = ("e", "d")

# Each naming of the library as (way, name, through), but for the elder calls.
NAMINGS = {
    *((way, "f", through) for way in ("read", "write") for through in HAVE_A),
    *((way, "g", through) for way in ("read", "write") for through in HAVE_E),
    *(("call", name, through) for name in ("m", "k", "s") for through in HAVE_A),
    *(("call", "t", through) for through in HAVE_E),
    *(("make", "new", through) for through in CLASSES),
}
ELDERS = {
    *(("b", "elder", name, "a") for name in ("m", "k")),
    *(("c", "elder", name, "b") for name in ("m", "k")),
    *(("d", "elder", name, "c") for name in ("m", "k")),
}
ALONE = {(place, *naming) for place in CLASSES for naming in NAMINGS} | ELDERS

# What stands in any body: it concerns a static or a maker.
FREE = {use for use in ALONE if use[1] == "make" or use[2] in ("s", "t")}
IN_METHOD = FREE | ELDERS | {use for use in ALONE if use[0] == use[3]}
METHODS = {("a", "m"), ("a", "k"), ("b", "m"), ("d", "m")}
STATICS = {("a", "s"), ("e", "t")}


def may(use, body):
    if body is None:
        return use in ALONE
    if (use[0], body) in METHODS:
        return use in IN_METHOD
    return (use[0], body) in STATICS and use in FREE


class Uses(unittest.TestCase, Refusals):
    def assert_refused_and_unchanged(self, error, what, made, *use, **more):
        before = seen(made, NAMES)
        self.assert_refused(error, what, made.add_use, *use, **more)
        self.assertEqual(seen(made, NAMES), before)

    def test_every_use(self):
        made = library()
        for use in itertools.product(CLASSES, WAYS, MEMBERS, CLASSES):
            for body in (None, "f", "m", "k", "s", "g", "t", "new", "x"):
                if may(use, body):
                    self.assertIsNone(made.add_use(*use, body=body), (use, body))
                else:
                    self.assert_refused(Misfit, use[2], made.add_use, *use, body=body)

    def test_ways_by_hand(self):
        made = library()
        made.add_use("e", "read", "f", "c")
        made.add_use("e", "write", "f", "a")
        made.add_use("e", "call", "m", "c")
        made.add_use("e", "call", "s", "b")
        made.add_use("e", "make", "new", "d")
        made.add_use("b", "elder", "m", "a")
        made.add_use("b", "read", "f", "b", body="m")
        made.add_use("b", "write", "f", "b", body="m")
        made.add_use("b", "call", "k", "b", body="m")
        made.add_use("b", "call", "m", "b", body="m")
        made.add_use("b", "elder", "m", "a", body="m")
        made.add_use("b", "call", "t", "d", body="m")
        made.add_use("b", "make", "new", "e", body="m")
        made.add_use("a", "call", "t", "e", body="s")
        made.add_use("a", "call", "s", "d", body="s")
        made.add_use("a", "make", "new", "a", body="s")

    def test_elder_only_through_a_direct_base(self):
        made = library()
        for place, through in itertools.product(CLASSES, repeat=2):
            if (place, through) not in (("b", "a"), ("c", "b"), ("d", "c")):
                self.assert_refused_and_unchanged(Misfit, "m", made, place, "elder", "m", through)
        self.assert_refused_and_unchanged(Misfit, "m", made, "d", "elder", "m", "e")
        self.assert_refused_and_unchanged(Misfit, "s", made, "b", "elder", "s", "a")
        self.assert_refused_and_unchanged(Misfit, "f", made, "b", "elder", "f", "a")

    def test_no_naming(self):
        made = library()
        for way in ("", "use", "base", "body", "readx", "new"):
            for name, (place, through) in itertools.product(MEMBERS, ("aa", "ba", "ea")):
                self.assert_refused_and_unchanged(Misfit, name, made, place, way, name, through)
        self.assert_refused_and_unchanged(Misfit, "m", made, "a", "make", "m", "a")
        self.assert_refused_and_unchanged(Misfit, "new", made, "a", "call", "new", "a")
        self.assert_refused_and_unchanged(Misfit, "f", made, "a", "read", "f", "e")

    def test_method_of_another_object_in_a_method(self):
        made = library()
        for way, name in (("read", "f"), ("write", "f"), ("call", "m"), ("call", "k")):
            self.assert_refused_and_unchanged(Misfit, name, made, "b", way, name, "a", body="m")
            self.assert_refused_and_unchanged(Misfit, name, made, "b", way, name, "c", body="m")

    def test_own_object_in_a_static(self):
        made = library()
        for way, name in (("read", "f"), ("write", "f"), ("call", "m")):
            self.assert_refused_and_unchanged(Misfit, name, made, "a", way, name, "a", body="s")
        made.add_member("b", "u", kind="static", level="one")
        self.assert_refused_and_unchanged(Misfit, "m", made, "b", "elder", "m", "a", body="u")

    def test_body_that_place_does_not_declare_itself(self):
        made = library()
        for body in ("m", "f", "s", "x", "new"):
            self.assert_refused_and_unchanged(Misfit, "new", made, "c", "make", "new", "a", body=body)
        self.assert_refused_and_unchanged(Misfit, "t", made, "a", "call", "t", "e", body="t")
        made.add_member("c", "m", kind="method", level="one")
        self.assertIsNone(made.add_use("c", "make", "new", "a", body="m"))

    def test_unknown(self):
        made = library()
        for name in ("x", "p", "new", "m"):
            self.assert_refused_and_unchanged(Unknown, name, made, name, "make", "new", "a")
            self.assert_refused_and_unchanged(Unknown, name, made, "a", "make", "new", name)

    def test_first_of_several(self):
        made = library()
        self.assert_refused_and_unchanged(Unknown, "x", made, "x", "read", "zz", "y", body="q")
        self.assert_refused_and_unchanged(Unknown, "y", made, "a", "read", "zz", "y", body="q")
        self.assert_refused_and_unchanged(Misfit, "zz", made, "a", "read", "zz", "a", body="q")

    def test_declaration_after_the_refusal(self):
        made = library()
        self.assert_refused_and_unchanged(Misfit, "z", made, "a", "call", "z", "d")
        made.add_member("e", "z", kind="method", level="one")
        self.assertIsNone(made.add_use("a", "call", "z", "d"))

    def test_added_twice(self):
        made = library()
        for _ in range(2):
            made.add_use("a", "call", "s", "a")
            made.add_use("a", "call", "s", "a", body="m")
            made.add_use("a", "call", "s", "a", body=None)
        self.assertEqual(sorted(made.uses, key=str), sorted([
            ("a", "call", "s", "a", None), ("a", "call", "s", "a", "m"),
        ], key=str))

    def test_told_uses_are_a_copy(self):
        made = library()
        made.add_use("a", "call", "s", "a")
        told = made.uses
        told.clear()
        self.assertEqual(made.uses, [("a", "call", "s", "a", None)])
        self.assertEqual(library().uses, [])

    def test_uses_change_nothing_else(self):
        made, other = library(), library()
        made.add_use("a", "read", "f", "a", body="m")
        self.assertEqual(seen(made, NAMES)[:5], seen(other, NAMES)[:5])

    def test_beyond_the_limits(self):
        made = library()
        for place, through in itertools.product(CLASSES, repeat=2):
            made.add_use(place, "make", "new", through)
        self.assertEqual(len(made.uses), 25)


if __name__ == "__main__":
    unittest.main()
