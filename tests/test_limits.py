"""Point 2: each function with houses at the limits and somewhat beyond, in time."""

import itertools
import random
import time
import unittest

from tests.making import USUAL, Chance, act, book_of, c, house_of, m, plan_of, row, use
from tests.plain import Plain
from tests.support import Refusals
from whomayname.houses import House, swap_book
from whomayname.levels import against, openings, tightest
from whomayname.library import Lineage
from whomayname.parting import first_break, parting, safe_moves
from whomayname.reach import Table
from whomayname.rules import Book

LEVELS = (*USUAL, ("heirs", "below"), ("near", "below&package"))
SECONDS = 30


def at_the_limits():
    """Houses with as much as may be: a chain, a star, a tree of nested classes, and some by chance."""
    packages = [(f"p{at}", at == 3) for at in range(4)]
    chain = [c("a", package="p0"), *(c(low, up, f"p{at % 3}") for at, (up, low) in enumerate(zip("abcd", "bcde")))]
    star = [c("a", package="p0"), *(c(name, "a", f"p{at}") for at, name in enumerate("bcde"))]
    nested = [c("a", package="p0"), c("b", inside="a"), c("d", "a", inside="b"), c("e", "d", "p1"), c("g", "b", "p2")]
    methods = [m("a", name, level) for name, level in zip(("k1", "k2", "k3"), ("protected", "public", "near"))]
    again = [m(owner, "k", "public") for owner in "abcde"]
    fields = [m("a", f"f{at}", "protected", write="private") for at in range(8)]
    made = [plan_of(chain, again + methods, packages=packages, book=LEVELS),
            plan_of(star, [m("a", f"k{at}", "public") for at in range(8)], packages=packages, book=LEVELS),
            plan_of(star, fields, packages=packages, book=LEVELS),
            plan_of(nested, [m("a", f"s{at}", "package") for at in range(8)], packages=packages, book=LEVELS)]
    chance = Chance(random.Random(71))
    for plan in made:
        for _ in range(12):
            chance.add_use(plan)
    return made + [chance.plan(full=True) for _ in range(8)]


def beyond_the_limits():
    """A house with somewhat more than may be."""
    packages = [(f"p{at}", at == 5) for at in range(6)]
    classes = [c("a", package="p0")]
    classes += [c(f"c{at}", package=f"p{at % 6}")[:3] + ((f"c{at - 1}" if at else "a",), "public") for at in range(6)]
    members = [m("a", f"longname{at}", "protected", kind=("field", "method", "static")[at % 3]) for at in range(8)]
    members += [m(f"c{at}", "longname1", "public") for at in range(3)]
    book = [*LEVELS, ("wide", "heir|package"), ("own", "own")]
    plan = plan_of(classes, members, packages=packages, book=book)
    chance = Chance(random.Random(72))
    for _ in range(16):
        chance.add_use(plan)
    return plan


class InTime(unittest.TestCase, Refusals):
    def setUp(self):
        self.start = time.perf_counter()

    def tearDown(self):
        self.assertLess(time.perf_counter() - self.start, SECONDS)

    def houses(self):
        return [(plan, house_of(plan)) for plan in [*at_the_limits(), beyond_the_limits()]]

    def test_the_houses_are_at_the_limits(self):
        sizes = [[len(plan[key]) for key in ("packages", "classes", "members", "uses", "book")]
                 for plan in at_the_limits()[:4]]
        self.assertEqual(sizes, [[4, 5, 8, 12, 6]] * 4)

    def test_houses(self):
        for plan, house in self.houses():
            self.assertEqual(set(house.broken()), {use for use, let in Plain(plan).present().items() if not let})
            library = house.library()
            for place, owner, through in itertools.product(library.classes, repeat=3):
                if library.is_below(through, owner):
                    house.stance(place, owner, through)
            marks = library.marks
            self.assertEqual(house.releveled({mark: plan["book"][0][0] for mark in marks}).library().marks, marks)
            before = house.book
            self.assertIs(swap_book(house, book_of(plan["book"])), before)
            for name in library.classes:
                if library.outer_of(name) is None:
                    self.assertEqual(house.moved(name, "p3").library().package_of(name), "p3")

    def test_programs(self):
        for plan, house in self.houses():
            rows = [row("longlastname", package="far")]
            rows += [row(f"x{at}", package="p1") for at in range(3)]
            rows += [row("y0", inside="x0"), row("y1", inside="y0"), row("y2", ("x1", "x2"), inside="y1")]
            rows += [act("y2", "make", "new", "x1", None)]
            self.assertEqual(len(rows), 8)
            for more in (rows, rows + [row(f"z{at}", package="far") for at in range(6)]):
                if not dict(plan["packages"])["p1"]:
                    self.assert_accepted(house, more)
                    self.assertEqual(house.run(more), [])

    def test_runs(self):
        for plan, house in self.houses()[:4]:
            name = plan["members"][0][1]
            rows = [row("x", "a", "p0"), row("y", "x", "p0")]
            way, target = {"f": ("read", "x"), "k": ("call", "y"), "s": ("call", None)}[name[0]]
            rows += [act("x", way, name, "x", target)] * 6
            self.assertIsNone(Plain(plan).refusal(rows))
            self.assertEqual(set(house.run(rows)), Plain(plan).run(rows))

    def test_tables(self):
        for _, house in self.houses():
            table = Table(house)
            for entry in table:
                self.assertIs(house.accepts(table[entry]), True)

    def test_breaks(self):
        for plan, house in self.houses():
            self.assertIsNone(first_break(house, house.releveled({})))
            for level, rule in plan["book"]:
                book = [(each, "below&package" if each == level else text) for each, text in plan["book"]]
                other = House(house.library(), book_of(book))
                for call in (first_break, parting):
                    rows = call(house, other)
                    self.assertTrue(rows is None or len(rows) <= 4)

    def test_moves(self):
        for _, house in self.houses():
            for name, package in safe_moves(house):
                self.assertIsNone(first_break(house, house.moved(name, package)))

    def test_levels(self):
        for plan, house in self.houses():
            told = tightest(house)
            self.assertEqual(set(told), set(house.library().marks))
            self.assertEqual(tightest(house.releveled(told)), told)
            for mark in told:
                for level, _ in plan["book"]:
                    against(house, mark, level)

    def test_openings(self):
        for plan, house in self.houses():
            library = house.library()
            source = random.Random(73)
            possible = [
                (place, "write" if kind == "field" else "call", name, target)
                for _, name, kind, *_ in plan["members"] for place in library.classes for target in library.classes
                if library.owner_of(target, name) is not None
            ]
            for many in (4, 4, 4, 7):
                wishes = [source.choice(possible) for _ in range(many)]
                told = openings(house, wishes)
                self.assertTrue(told is None or set(told) <= set(library.marks))

    def test_openings_of_a_long_chain(self):
        """Opening the first declaration asks for wider levels of all below it, or for one that there is not."""
        rules = ["below&package", "below", "heir&package|below", "heir", "heir|nested", "heir|own"]
        book = [*((f"l{at}", rule) for at, rule in enumerate(rules)), ("near", "package")]
        names = "abdegh"
        classes = [c("a", maker="l0"), *(c(low, up, maker="l0") for up, low in zip(names, names[1:]))]
        classes.append(c("i", "a", "q", maker="l0"))
        for last, some in (("l0", 6), ("near", None)):
            members = [m(name, "k", "l0") for name in names[:-1]] + [m("h", "k", last)]
            house = house_of(plan_of(classes, members, book=book))
            for wishes in ([("i", "call", "k", "a")], [(place, "call", "k", "a") for place in "hgedi"]):
                told = openings(house, wishes)
                self.assertEqual(told and len(told), some)

    def test_a_lineage_alone(self):
        lineage = Lineage()
        names = [f"averylongname{at}" for at in range(16)]
        for at, name in enumerate(names):
            lineage.link(name, inside=names[at - 1] if at % 2 else None, bases=names[at - 1:at])
        self.assertEqual(lineage.classes, names)
        for low, high in itertools.product(range(16), repeat=2):
            self.assertIs(lineage.is_below(names[low], names[high]), high <= low)

    def test_a_long_book(self):
        book = book_of([(f"averylonglevel{at}", "any") for at in range(12)])
        self.assertEqual(len(book.levels), 12)
        self.assertIs(book <= book, True)
        self.assertIs(book <= Book([]), False)


if __name__ == "__main__":
    unittest.main()
