"""Points 17 and 18: entries, and tables with shortest programs."""

import random
import re
import unittest

from tests.making import Chance, act, book_of, c, house_of, library_of, m, plan_of, row, use
from tests.plain import Plain
from tests.searching import shown
from tests.support import Refusals
from whomayname.errors import Unknown
from whomayname.houses import House, swap_book
from whomayname.reach import Table
from whomayname.rules import Book


class Tables(unittest.TestCase, Refusals):
    def check_form(self, plan, rows):
        """Point 18: a stranger, then one act whose place is the stranger's last class."""
        given = [name for name, *_ in plan["classes"]]
        *classes, last = rows
        self.assertIn(len(classes), (1, 2))
        for count, (word, name, package, inside, bases, bodies) in enumerate(classes):
            self.assertEqual((word, inside, bodies), ("class", None, ()))
            for each in (name, package):
                self.assertRegex(each, re.compile("^[a-z0-9]{1,12}$"))
            self.assertIs(type(bases), tuple)
            self.assertLessEqual(len(bases), 1)
            for base in bases:
                self.assertIn(base, [classes[0][1]] if count else given)
        if len(classes) == 2:
            self.assertEqual(len(classes[0][4]), 1)
        self.assertEqual((last[0], last[1], len(last)), ("act", classes[-1][1], 6))

    def check(self, plan, lengths):
        """That the table has these entries, each with a program of the given length."""
        house, plain = house_of(plan), Plain(plan)
        table = Table(house)
        self.assertEqual(set(table), set(lengths), plan)
        self.assertEqual(len(list(table)), len(lengths))
        self.assertEqual(len(table), len(lengths))
        for entry, length in lengths.items():
            self.assertIs(entry in table, True)
            rows = table[entry]
            self.assertIs(type(rows), list)
            self.assertEqual(len(rows), length, (plan, entry, rows))
            self.check_form(plan, rows)
            self.assert_accepted(house, rows)
            self.assertIn(entry, plain.entries(rows))
        return table


class ByHand(Tables):
    def test_no_class_at_all(self):
        table = self.check(plan_of(packages=[("p", True), ("q", False)]), {})
        self.assertIs(("make", "a", "new", None, False) in table, False)
        self.check(plan_of(packages=[], book=[]), {})

    def test_nothing_let(self):
        self.check(plan_of([c("a")], [m("a", "f"), m("a", "k"), m("a", "s")], book=[("public", "own")]), {})

    def test_public(self):
        plan = plan_of([c("a"), c("b", "a")], [m("a", "f"), m("a", "k"), m("b", "k"), m("a", "s")])
        lengths = {("make", "a", "new", None, False): 2, ("make", "b", "new", None, False): 2,
                   ("call", "a", "s", None, False): 2}
        for target, owner in (("a", "a"), ("b", "b")):
            for later in (False, True):
                lengths["read", "a", "f", target, later] = 2
                lengths["write", "a", "f", target, later] = 2
                lengths["call", owner, "k", target, later] = 2
        # Later code below b may call a's declaration on its own object only by an elder call of b, which is absent.
        self.check(plan, lengths)

    def test_protected(self):
        plan = plan_of(
            [c("a", package="s"), c("b", package="s", maker="protected")],
            [m("a", "f", "protected", write="private"), m("a", "s", "protected"), m("b", "k", "protected")],
            packages=[("p", False), ("s", True)],
        )
        self.check(plan, {
            ("make", "a", "new", None, False): 2, ("read", "a", "f", "a", True): 2,
            ("call", "a", "s", None, False): 2, ("call", "b", "k", "b", True): 2,
        })

    def test_sealed_and_unsealed_packages(self):
        members = [m("a", "f", "package", write="private"), m("a", "k", "package"), m("a", "s", "protected")]
        for maker in ("public", "package"):
            plan = plan_of([c("a", maker=maker)], members, packages=[("p", False)])
            self.check(plan, {
                ("make", "a", "new", None, False): 2, ("call", "a", "s", None, False): 2,
                ("read", "a", "f", "a", False): 2, ("read", "a", "f", "a", True): 2,
                ("call", "a", "k", "a", False): 2, ("call", "a", "k", "a", True): 2,
            })
        plan = plan_of([c("a", maker="package")], members, packages=[("p", True), ("q", False)])
        self.check(plan, {})
        plan = plan_of([c("a", maker="public")], members, packages=[("p", True), ("q", False)])
        self.check(plan, {("make", "a", "new", None, False): 2, ("call", "a", "s", None, False): 2})

    def test_two_classes(self):
        """b may be a base in its package only, a's members are for heirs in another package only."""
        book = [("near", "package"), ("heirs", "below&package"), ("kin", "heir&package"), ("no", "-")]
        plan = plan_of(
            [c("a", package="q", maker="no"), c("b", "a", maker="near")],
            [m("a", "f", "heirs", write="no"), m("a", "s", "heirs"), m("a", "k", "kin")], book=book,
        )
        lengths = {
            ("make", "b", "new", None, False): 2, ("read", "a", "f", "b", True): 3, ("call", "a", "s", None, False): 3,
            ("call", "a", "k", "b", True): 3, ("call", "a", "k", "b", False): 3, ("call", "a", "k", "a", False): 3,
        }
        self.check(plan, lengths)
        sealed = dict(plan, packages=[("p", False), ("q", True)])
        self.check(sealed, {("make", "b", "new", None, False): 2})
        sealed = dict(plan, packages=[("p", True), ("q", False)])
        self.check(sealed, {})

    def test_maker_for_heirs(self):
        book = [("heirs", "heir"), ("near", "package")]
        plan = plan_of([c("a", package="q", maker="heirs"), c("b", "a", maker="near")], book=book)
        self.check(plan, {("make", "a", "new", None, False): 2, ("make", "b", "new", None, False): 2})
        plan = plan_of([c("a", package="q", maker="near"), c("b", "a", maker="heirs")],
                       packages=[("p", False), ("q", True)], book=book)
        self.check(plan, {("make", "b", "new", None, False): 2})

    def test_uses_in_bodies(self):
        plan = plan_of(
            [c("a", maker="none"), c("b", "a", maker="none"), c("d", maker="none")],
            [m("a", "f", "none"), m("a", "k", "none"), m("a", "j"), m("b", "k", "none"), m("d", "s", "none")],
            [use("a", "call", "k", "a", "j"), use("a", "read", "f", "a", "k"), use("b", "elder", "k", "a", "k"),
             use("b", "call", "s", "d", "k"), use("d", "make", "new", "a", "s"), use("a", "write", "f", "a")],
            book=[("none", "-"), ("public", "any")],
        )
        follow = {
            ("call", "a", "j", "a", False): 2, ("call", "a", "k", "a", False): 2, ("read", "a", "f", "a", False): 2,
            ("call", "a", "j", "b", False): 2, ("call", "b", "k", "b", False): 2, ("call", "a", "k", "b", False): 2,
            ("read", "a", "f", "b", False): 2, ("call", "d", "s", None, False): 2, ("make", "a", "new", None, False): 2,
        }
        self.check(plan, follow)
        plan["classes"][1] = c("b", "a")
        follow[("make", "b", "new", None, False)] = 2
        for way, owner, name in (("call", "a", "j"), ("call", "b", "k"), ("call", "a", "k"), ("read", "a", "f")):
            follow[way, owner, name, "b", True] = 2
        self.check(plan, follow)

    def test_shorter_through_a_body(self):
        """A field of b's later heirs takes three rows; a method, of two, reads it, too."""
        book = [("near", "package"), ("heirs", "below&package"), ("no", "-"), ("public", "any")]
        classes = [c("a", package="q", maker="no"), c("b", "a", maker="near")]
        members = [m("a", "f", "heirs", write="no"), m("b", "k", "near")]
        plan = plan_of(classes, members, book=book)
        self.check(plan, {
            ("make", "b", "new", None, False): 2, ("call", "b", "k", "b", False): 2, ("call", "b", "k", "b", True): 2,
            ("read", "a", "f", "b", True): 3,
        })
        plan = plan_of(classes, members, [use("b", "read", "f", "b", "k")], book=book)
        self.check(plan, {
            ("make", "b", "new", None, False): 2, ("call", "b", "k", "b", False): 2, ("call", "b", "k", "b", True): 2,
            ("read", "a", "f", "b", True): 2, ("read", "a", "f", "b", False): 2,
        })

    def test_the_base_of_an_entry_is_the_first_given_class(self):
        plan = plan_of([c("a"), c("b", "a", maker="no"), c("d", "b")], [m("a", "f", "low", write="no")],
                       book=[("low", "below"), ("no", "-"), ("public", "any")])
        self.check(plan, {
            ("make", "a", "new", None, False): 2, ("make", "d", "new", None, False): 2,
            ("read", "a", "f", "a", True): 2, ("read", "a", "f", "d", True): 2,
        })


class Objects(unittest.TestCase, Refusals):
    """What a table is as an object."""

    plan = plan_of([c("a"), c("b", "a")], [m("a", "f"), m("a", "k", "protected")])

    def test_unknown_entries(self):
        table = Table(house_of(self.plan))
        for entry in (("call", "b", "k", "a", False), ("make", "a", "new", None, True), ("read", "a", "f", "x", True),
                      ("read", "a", "f", None, False), ("write", "a", "k", "a", False), ("elder", "a", "k", "a", True)):
            self.assertIs(entry in table, False)
            self.assert_refused(Unknown, entry, lambda: table[entry])
        for entry in table:
            self.assertIs(entry in table, True)

    def test_entries_are_of_the_told_kinds(self):
        for entry in Table(house_of(self.plan)):
            way, owner, name, target, later = entry
            self.assertIn(way, ("read", "write", "call", "make"))
            self.assertIn(type(target), (str, type(None)))
            self.assertIs(type(later), bool)
            self.assertIs(type(entry), tuple)

    def test_of_the_house_as_it_is_then(self):
        house = house_of(self.plan)
        table = Table(house)
        entries = list(table)
        programs = [table[entry] for entry in entries]
        before = swap_book(house, book_of([("public", "-"), ("protected", "-")]))
        self.assertEqual((list(table), [table[entry] for entry in entries], len(table)),
                         (entries, programs, len(entries)))
        self.assertEqual(len(Table(house)), 0)
        house.book = before
        self.assertEqual(set(Table(house)), set(entries))

    def test_told_programs_are_copies(self):
        table = Table(house_of(self.plan))
        for entry in table:
            rows = table[entry]
            rows.append("more")
            rows[0] = None
            self.assertEqual([row[0] for row in table[entry]], ["class", "act"])

    def test_two_iterations_at_once(self):
        table = Table(house_of(self.plan))
        self.assertEqual(len([1 for _ in table for _ in table]), len(table) ** 2)

    def test_the_house_stays(self):
        house = house_of(self.plan)
        Table(house)
        self.assertEqual(house.library().classes, ["a", "b"])
        self.assert_accepted(house, [row("later0"), row("x")])


class Names(Tables):
    def test_names_that_the_library_has(self):
        names = [f"{stem}{at}" for stem in ("later", "far", "x", "class", "c", "p", "stranger", "new") for at in range(4)]
        letters = list("abcdefghijklmnopqrstuvwxyz0123456789")
        for taken in (names, letters, ["later0", "far0"], ["later1", "far1"], ["later2", "far2"]):
            plan = plan_of(
                [(name, "a1", None, (), "public") for name in ["a1", *taken]], [m("a1", "f", "protected")],
                packages=[(name, True) for name in ["a1", *taken]],
            )
            house = house_of(plan)
            table = Table(house)
            for entry in table:
                self.check_form(plan, table[entry])
                self.assertIs(house.accepts(table[entry]), True)
            self.assertEqual(len(table), len(taken) + 1 + 2)

    def test_packages_named_like_strangers_that_are_not_sealed(self):
        """A name that looks far may be near."""
        plan = plan_of(
            [c("a", package="far0", maker="far")], packages=[("far0", False), ("far1", True)],
            book=[("far", "any"), ("near", "package")],
        )
        plan["members"] = [m("a", "f", "near")]
        self.check(plan, {
            ("make", "a", "new", None, False): 2, **{
                (way, "a", "f", "a", later): 2 for way in ("read", "write") for later in (False, True)},
        })


class Searches(Tables):
    """Against a full search over programs of up to two classes, with bodies, nesting and two bases, and an act."""

    def test_by_chance(self):
        chance = Chance(random.Random(5), packages=2, classes=3, members=3, uses=5, levels=3)
        total = 0
        for _ in range(60):
            plan = chance.plan()
            lengths = shown(Plain(plan), 2)
            self.check(plan, lengths)
            total += len(lengths)
        self.assertGreater(total, 100)

    def test_where_three_rows_are_needed(self):
        source = random.Random(6)
        threes = 0
        for _ in range(25):
            near = ("near", source.choice(("package", "package|nested")))
            heirs = ("heirs", source.choice(("below&package", "heir&package", "heir", "below")))
            plan = plan_of(
                [c("a", package="q", maker=source.choice(("no", "near", "heirs"))), c("b", "a", maker="near")],
                [m("a", "f", "heirs"), m("a", "k", "heirs")],
                [use("a", "write", "f", "a", "k")] * source.choice((0, 1)),
                book=[near, heirs, ("no", "-")], packages=[("p", source.random() < 0.2), ("q", False)],
            )
            lengths = shown(Plain(plan), 2)
            self.check(plan, lengths)
            threes += sum(length == 3 for length in lengths.values())
        self.assertGreater(threes, 10)

    def test_three_classes_show_nothing_more(self):
        plan = plan_of(
            [c("a", package="q", maker="near")], [m("a", "k", "heirs"), m("a", "j", "no")],
            [use("a", "call", "j", "a", "k")], packages=[("q", False)],
            book=[("near", "package"), ("heirs", "below&package"), ("no", "-")],
        )
        self.check(plan, shown(Plain(plan), 3, 1))


class Books(unittest.TestCase):
    def test_empty_book(self):
        self.assertEqual(list(Table(House(library_of(plan_of()), Book([])))), [])


if __name__ == "__main__":
    unittest.main()
