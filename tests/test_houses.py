"""Points 1 and 12: houses, their books and copies, and the present uses."""

import random
import unittest

from tests.making import USUAL, Chance, act, book_of, c, house_of, library_of, m, plan_of, row, use
from tests.plain import Plain
from tests.support import Refusals, seen_of_house
from whomayname.errors import Unknown
from whomayname.houses import House, swap_book
from whomayname.levels import against, tightest
from whomayname.library import Library
from whomayname.rules import Book, Rule

FULL = plan_of(
    [c("a", maker="protected"), c("b", "a", package="q"), c("d", inside="a"), c("e", "b", package="q")],
    [m("a", "k", "protected"), m("a", "f", "public", write="private"), m("b", "k", "public"), m("a", "s", "package")],
    [use("b", "write", "f", "a"), use("a", "call", "s", "a", "k"), use("b", "call", "s", "a", "k")],
)
NOTHING = [(level, "-") for level, _ in USUAL]


class Copies(unittest.TestCase):
    """A house keeps its own library, and tells copies of it."""

    def change(self, library):
        """Change everything that can be changed."""
        library.add_package("r", sealed=True)
        library.add_class("z", maker="nolevel", package="r", bases=("a",))
        library.add_class("y", maker="private", inside="d", bases=("e",))
        library.add_member("e", "k", kind="method", level="private")
        library.add_member("d", "f2", kind="field", level="nolevel")
        library.add_use("e", "write", "f", "e", body="k")
        library.add_use("b", "make", "new", "d", body="k")
        library.link("x", bases=("b",))

    def test_library_that_is_changed_after_a_house_was_made_of_it(self):
        library = library_of(FULL)
        house = House(library, Book.usual())
        before = seen_of_house(house)
        rows = [row("z", "e", "r"), act("z", "call", "k", "z", "z")]
        events = sorted(house.run(rows), key=str)
        self.change(library)
        self.assertEqual(seen_of_house(house), before)
        self.assertEqual(sorted(house.run(rows), key=str), events)
        self.assertEqual(house.library().classes, ["a", "b", "d", "e"])

    def test_told_library_that_is_changed(self):
        house = house_of(FULL)
        before = seen_of_house(house)
        told = house.library()
        self.assertIsInstance(told, Library)
        self.change(told)
        self.assertEqual(told.classes, ["a", "b", "d", "e", "z", "y", "x"])
        self.assertEqual(seen_of_house(house), before)
        self.assertIsNot(house.library(), house.library())

    def test_told_libraries_beside_each_other(self):
        house = house_of(FULL)
        one, two = house.library(), house.library()
        one.add_class("z", maker="public", inside="a")
        two.add_class("z", maker="public", package="q", bases=("e",))
        one.add_member("z", "n", kind="field", level="public")
        two.add_member("a", "n", kind="method", level="private")
        self.assertEqual([one.owner_of("z", "n"), two.owner_of("z", "n")], ["z", "a"])
        self.assertEqual([one.owner_of("a", "n"), house.library().owner_of("a", "n")], [None, None])
        first, second = House(one, house.book), House(two, house.book)
        self.assertIn("nested", first.stance("z", "a", "a"))
        self.assertEqual(second.stance("z", "a", "a"), ("heir", "any"))
        self.assertEqual(first.moved("a", "q").library().package_of("z"), "q")
        self.assertEqual(second.moved("a", "q").moved("a", "p").library().package_of("z"), "q")

    def test_told_library_has_everything(self):
        library = library_of(FULL)
        told = House(library, Book.usual()).library()
        for each in (library, told):
            self.assertEqual(each.classes, ["a", "b", "d", "e"])
            self.assertEqual(each.uses, FULL["uses"])
            self.assertEqual(each.owner_of("e", "k"), "b")
            self.assertEqual(each.level_of(("a", "f", "write")), "private")
            self.assertEqual([each.package_of(name) for name in "abde"], ["p", "q", "p", "q"])
        self.assertEqual(told.marks, library.marks)
        again = House(told, Book.usual())
        self.assertEqual(seen_of_house(again)[:2], seen_of_house(House(library, Book.usual()))[:2])

    def test_told_lists_are_copies(self):
        house = house_of(FULL)
        before = house.broken()
        house.broken().clear()
        self.assertEqual(house.broken(), before)
        rows = [row("x", "b"), act("x", "call", "k", "b", "b")]
        events = house.run(rows)
        self.assertIs(type(events), list)
        house.run(rows).clear()
        self.assertEqual(house.run(rows), events)

    def test_two_houses_of_one_library(self):
        library = library_of(FULL)
        one, two = House(library, Book.usual()), House(library, book_of(NOTHING))
        self.assertNotEqual(one.broken(), two.broken())
        one.book = book_of(NOTHING)
        self.assertEqual(one.broken(), two.broken())


class Books(unittest.TestCase, Refusals):
    def test_book(self):
        book = Book.usual()
        house = House(library_of(FULL), book)
        self.assertIs(house.book, book)
        other = book_of(NOTHING)
        house.book = other
        self.assertIs(house.book, other)

    def test_swap_book(self):
        first, second = Book.usual(), book_of(NOTHING)
        house = House(library_of(FULL), first)
        few = house.broken()
        self.assertIs(swap_book(house, second), first)
        self.assertIs(house.book, second)
        self.assertGreater(len(house.broken()), len(few))
        self.assertIs(swap_book(house, first), second)
        self.assertEqual(house.broken(), few)

    def test_the_book_counts_at_once(self):
        house = house_of(plan_of([c("a")]))
        rows = [row("x"), act("x", "make", "new", "a", None)]
        self.assertIs(house.accepts(rows), True)
        house.book = book_of(NOTHING)
        self.assertIs(house.accepts(rows), False)
        house.book = book_of([("public", "package")])
        self.assertIs(house.accepts(rows), True)
        self.assertIs(house.accepts([row("x", package="q"), rows[1]]), False)

    def test_lacking_level_in_all_three_places(self):
        def set_book(house, book):
            house.book = book

        full = [(level, Rule.of("any")) for level in ("mk", "rd", "wr", "cl", "st")]
        plan = plan_of([c("a", maker="mk")], [m("a", "f", "rd", write="wr"), m("a", "k", "cl"), m("a", "s", "st")])
        for lacking in range(len(full)):
            book = Book(full[:lacking] + full[lacking + 1:])
            level = full[lacking][0]
            self.assert_refused(Unknown, level, House, library_of(plan), book)
            for change in (set_book, swap_book):
                house = House(library_of(plan), Book(full))
                before = seen_of_house(house)
                self.assert_refused(Unknown, level, change, house, book)
                self.assertEqual(seen_of_house(house), before)
                self.assertIs(house.book, before[-1])
        self.assert_refused(Unknown, "mk", House, library_of(plan), Book([]))

    def test_level_of_a_declaration_below(self):
        plan = plan_of([c("a"), c("b", "a", maker="package")], [m("a", "k"), m("b", "k", "protected")])
        for lacking in ("package", "protected"):
            book = book_of([pair for pair in USUAL if pair[0] != lacking])
            self.assert_refused(Unknown, lacking, House, library_of(plan), book)

    def test_more_levels_than_needed(self):
        plan = plan_of([c("a", maker="one")], book=[("two", "-"), ("one", "any"), ("three", "own")])
        self.assertEqual(house_of(plan).book.levels, ["two", "one", "three"])

    def test_no_class_needs_no_level(self):
        house = House(Library(), Book([]))
        self.assertEqual((house.broken(), house.library().marks, house.book.levels), ([], [], []))


class Broken(unittest.TestCase):
    def check(self, plan, *broken):
        told = house_of(plan).broken()
        self.assertIs(type(told), list)
        self.assertEqual(sorted(told, key=str), sorted(broken, key=str))
        self.assertEqual({use for use, let in Plain(plan).present().items() if not let}, set(broken))

    def test_added_uses(self):
        classes = [c("a", maker="package"), c("b", "a"), c("d", package="q"), c("e", inside="a")]
        members = [m("a", "f", "protected", write="private"), m("a", "k", "package"), m("a", "s", "public")]
        uses = [
            use("b", "read", "f", "a"), use("b", "read", "f", "b"), use("b", "write", "f", "b"),
            use("e", "write", "f", "b"), use("d", "read", "f", "a"), use("d", "call", "k", "b"),
            use("b", "call", "k", "a"), use("d", "call", "s", "b"), use("d", "make", "new", "a"),
            use("d", "make", "new", "e"), use("b", "elder", "k", "a"), use("b", "make", "new", "a"),
        ]
        self.check(
            plan_of(classes, members, uses),
            ("use", "b", "write", "f", "b", None), ("use", "d", "read", "f", "a", None),
            ("use", "d", "call", "k", "b", None), ("use", "d", "make", "new", "a", None),
        )

    def test_uses_in_bodies(self):
        classes = [c("a"), c("b", "a", package="q")]
        members = [m("a", "f", "private"), m("a", "k", "protected"), m("b", "k", "protected"), m("b", "s", "public")]
        uses = [
            use("b", "read", "f", "b", "k"), use("b", "elder", "k", "a", "k"), use("b", "make", "new", "a", "s"),
            use("a", "write", "f", "a", "k"), use("a", "call", "s", "b", "k"),
        ]
        self.check(plan_of(classes, members, uses), ("use", "b", "read", "f", "b", "k"))
        self.check(
            plan_of(classes, members, uses, book=[*USUAL[:2], ("protected", "package"), USUAL[3]]),
            ("use", "b", "read", "f", "b", "k"), ("use", "b", "elder", "k", "a", "k"), ("body", "b", "k"),
        )

    def test_the_same_use_with_and_without_a_body(self):
        classes = [c("a", maker="private"), c("b")]
        uses = [use("b", "make", "new", "a"), use("b", "make", "new", "a", "k"), use("b", "make", "new", "a", "s")]
        self.check(plan_of(classes, [m("b", "k"), m("b", "s")], uses), *(("use", *use) for use in uses))

    def test_uses_that_were_added_twice(self):
        classes = [c("a", maker="private"), c("b")]
        uses = [use("b", "make", "new", "a"), use("a", "make", "new", "a")] * 2
        self.check(plan_of(classes, [], uses), ("use", "b", "make", "new", "a", None))

    def test_bases(self):
        classes = [
            c("a", maker="private"), c("b", "a"), c("d", "a", inside="a"), c("e", maker="package"),
            c("g", "be", package="q"), c("h", "g", maker="protected"), c("i", "h", package="q"),
        ]
        self.check(plan_of(classes), ("base", "b", "a"), ("base", "g", "e"))
        self.check(plan_of(classes, book=[*USUAL[:2], ("protected", "package"), ("public", "package")]),
                   ("base", "b", "a"), ("base", "g", "e"), ("base", "g", "b"), ("base", "h", "g"), ("base", "i", "h"))

    def test_maker_is_seen_as_of_an_object_of_the_class(self):
        """The stance of class, base and class has the word below."""
        classes = [c("a", maker="protected"), c("b", "a", package="q")]
        self.check(plan_of(classes, [], [use("b", "make", "new", "a")]), ("use", "b", "make", "new", "a", None))
        self.check(plan_of(classes, book=[("protected", "below"), ("public", "-")]))
        self.check(plan_of(classes, book=[("protected", "own|around"), ("public", "-")]), ("base", "b", "a"))

    def test_bodies(self):
        classes = [c("a"), c("b", "a"), c("d", "b", package="q"), c("e", "d", package="q")]
        members = [m("a", "k", "package"), m("b", "k", "package"), m("e", "k", "public"), m("d", "k", "package")]
        # d does not see b's, e sees d's.
        self.check(plan_of(classes, members), ("body", "d", "k"))
        # e is not wide.
        members[2] = m("e", "k", "private")
        self.check(plan_of(classes, members), ("body", "d", "k"), ("body", "e", "k"))

    def test_a_body_between_changes_what_is_seen(self):
        classes = [c("a"), c("b", "a"), c("d", "b", package="q")]
        members = [m("a", "k", "package"), m("d", "k")]
        self.check(plan_of(classes, members), ("body", "d", "k"))
        members.append(m("b", "k", "protected"))
        self.check(plan_of(classes, members))

    def test_wide_is_by_rules(self):
        classes = [c("a"), c("b", "a")]
        for above, level, broken in (
            ("x", "x", False), ("x", "same", False), ("same", "x", False), ("x", "wider", False),
            ("wider", "x", True), ("wider", "across", True), ("x", "across", True),
        ):
            book = [("x", "below"), ("same", "below"), ("wider", "below|package"), ("across", "package"),
                    ("public", "any")]
            plan = plan_of(classes, [m("a", "k", above), m("b", "k", level)], book=book)
            self.check(plan, *([("body", "b", "k")] if broken else []))

    def test_not_seen_though_wide(self):
        classes = [c("a"), c("b", "a")]
        plan = plan_of(classes, [m("a", "k", "no"), m("b", "k", "no")], book=[("no", "nested"), ("public", "any")])
        self.check(plan, ("body", "b", "k"))

    def test_book_in_which_every_rule_lets_nothing(self):
        plan = dict(FULL, book=NOTHING)
        self.check(plan, *Plain(plan).present())
        self.assertEqual(len(Plain(plan).present()), 3 + 2 + 1)

    def test_fields_and_statics_have_no_body_uses(self):
        self.check(plan_of([c("a"), c("b", "a")], [m("a", "f", "none"), m("a", "s", "none"), m("a", "k", "none")],
                           book=[("none", "-"), ("public", "any")]))

    def test_houses_by_chance(self):
        chance = Chance(random.Random(7), classes=6)
        for _ in range(300):
            plan = chance.plan()
            self.check(plan, *(use for use, let in Plain(plan).present().items() if not let))


class Releveled(unittest.TestCase, Refusals):
    def test_levels(self):
        house = house_of(FULL)
        before = seen_of_house(house)
        levels = {("a", "f", "write"): "public", ("b", "new", "make"): "private"}
        made = house.releveled(levels)
        self.assertIsInstance(made, House)
        self.assertEqual(seen_of_house(house), before)
        expected = {mark: house.library().level_of(mark) for mark in house.library().marks} | levels
        self.assertEqual({mark: made.library().level_of(mark) for mark in made.library().marks}, expected)
        self.assertIs(made.book, house.book)
        self.assertEqual(made.library().uses, house.library().uses)
        self.assertIn(("use", "b", "write", "f", "a", None), house.broken())
        self.assertNotIn(("use", "b", "write", "f", "a", None), made.broken())
        self.assertIn(("base", "e", "b"), made.broken())
        self.assertEqual(levels, {("a", "f", "write"): "public", ("b", "new", "make"): "private"})
        levels.clear()
        self.assertEqual(made.library().level_of(("a", "f", "write")), "public")

    def test_no_levels(self):
        house = house_of(FULL)
        made = house.releveled({})
        self.assertIsNot(made, house)
        self.assertEqual(seen_of_house(made), seen_of_house(house))
        made.book = book_of(NOTHING)
        self.assertNotEqual(seen_of_house(made), seen_of_house(house))

    def test_errors(self):
        house = house_of(FULL)
        before = seen_of_house(house)
        mark = ("a", "f", "write")
        for unknown in (("a", "f", "call"), ("z", "new", "make"), ("e", "k", "call"), ("a", "k", "elder")):
            self.assert_refused(Unknown, unknown, house.releveled, {unknown: "public"})
            self.assert_refused(Unknown, unknown, house.releveled, {mark: "public", unknown: "none"})
        self.assert_refused(Unknown, "none", house.releveled, {mark: "none"})
        self.assert_refused(Unknown, "none", house.releveled, {("b", "k", "call"): "package", mark: "none"})
        self.assertEqual(seen_of_house(house), before)


class Moved(unittest.TestCase):
    def test_with_all_inside(self):
        classes = [c("a"), c("b", inside="a"), c("d", "a", inside="b"), c("e", "b"), c("g", inside="e")]
        house = house_of(plan_of(classes, uses=[use("e", "make", "new", "d")]))
        before = seen_of_house(house)
        for name, packages in (("a", "qqqpp"), ("e", "pppqq")):
            made = house.moved(name, "q")
            self.assertIsInstance(made, House)
            self.assertEqual([made.library().package_of(each) for each in "abdeg"], list(packages))
            self.assertEqual([made.library().outer_of(each) for each in "abdeg"], [None, "a", "b", None, "e"])
            self.assertIs(made.book, house.book)
            self.assertEqual(made.library().uses, house.library().uses)
            self.assertEqual(made.library().marks, house.library().marks)
            self.assertEqual(seen_of_house(house), before)
            self.assertEqual(made.moved(name, "p").library().package_of(name), "p")

    def test_stances_follow(self):
        house = house_of(plan_of([c("a", maker="package"), c("b", "a"), c("d", inside="b")]))
        self.assertEqual(house.broken(), [])
        made = house.moved("b", "q")
        self.assertEqual(made.broken(), [("base", "b", "a")])
        self.assertEqual(made.stance("a", "d", "d"), ("any",))
        self.assertEqual(house.stance("a", "d", "d"), ("package", "any"))

    def test_into_a_sealed_package(self):
        house = house_of(plan_of([c("a")], packages=[("p", False), ("q", True)]))
        made = house.moved("a", "q")
        self.assertIs(made.accepts([row("x", package="p")]), True)
        self.assertIs(made.accepts([row("x", package="q")]), False)


class Empty(unittest.TestCase):
    def test_no_class(self):
        house = house_of(plan_of(packages=[("p", True)]))
        self.assertEqual(house.broken(), [])
        self.assertEqual(house.run([row("x", package="q"), act("x", "make", "new", "x", None)]), [])
        self.assertEqual(house.releveled({}).library().classes, [])
        self.assertEqual(tightest(house), {})
        with self.assertRaises(Unknown):
            against(house, ("a", "new", "make"), "public")


if __name__ == "__main__":
    unittest.main()
