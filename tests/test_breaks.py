"""Points 6 and 19: first_break and parting."""

import copy
import random
import re
import unittest

from tests.making import RULES, Chance, act, book_of, c, house_of, m, plan_of, row
from tests.plain import Plain
from tests.searching import breaks, shortest_break
from tests.support import seen_of_house
from whomayname.errors import Unlike
from whomayname.houses import House
from whomayname.library import Library
from whomayname.parting import first_break, parting
from whomayname.rules import Book


def changed(plan, **more):
    return dict(copy.deepcopy(plan), **more)


class Breaks(unittest.TestCase):
    def check_form(self, plan, rows):
        """Point 19."""
        given = [name for name, *_ in plan["classes"]]
        classes = [row for row in rows if row[0] == "class"]
        self.assertLessEqual(len(rows) - len(classes), 1)
        self.assertEqual(rows[:len(classes)], classes)
        for row in classes:
            for each in [row[1], row[2] or row[3]]:
                self.assertRegex(each, re.compile("^[a-z0-9]{1,12}$"))
            self.assertLessEqual(len(row[4]), 1)
            self.assertLessEqual(len(row[5]), 1)
            self.assertIs(row[2] is None, row[3] is not None)
        bodied = [row for row in classes if row[5]]
        if not bodied:
            self.assertTrue(all(row[3] is None for row in classes))
            self.assertLessEqual(len(classes), 2)
            return
        place = bodied[0][1]
        further = [row for row in classes if place in (row[3], *row[4]) or row[1] == bodied[0][3]]
        further += [row for row in classes[-1:] if row not in further and row != bodied[0]]
        self.assertLessEqual(len(further), 1)
        stranger = [row for row in classes if row not in further]
        self.assertIs(stranger[-1], bodied[0])
        self.assertEqual([base in given for base in stranger[0][4]], [True])
        if len(stranger) == 2:
            self.assertEqual((stranger[0][3], stranger[0][5], stranger[1][4]), (None, (), (stranger[0][1],)))
        for row in further:
            self.assertIn(row[4], [(), (place,)])
            self.assertTrue(all(name == bodied[0][5][0][0] for name, _ in row[5]))

    def check(self, plan, other, length, both=True):
        """That a shortest break has this length."""
        house, second = house_of(plan), house_of(other)
        before = seen_of_house(house), seen_of_house(second)
        rows = first_break(house, second)
        if length is None:
            self.assertIsNone(rows, (plan, other))
        else:
            self.assertIs(type(rows), list)
            self.assertEqual(len(rows), length, (plan, other, rows))
            self.assertIsNone(Plain(plan).refusal(rows))
            self.assertEqual(Plain(other).refusal(rows)[1], length - 1)
            self.assertIs(house.accepts(rows), True)
            self.assertIs(second.accepts(rows), False)
            self.check_form(plan, rows)
        self.assertEqual((seen_of_house(house), seen_of_house(second)), before)
        if both:
            self.check_parting(plan, other)
        return rows

    def check_parting(self, plan, other):
        house, second = house_of(plan), house_of(other)
        found = [rows for rows in (first_break(house, second), first_break(second, house)) if rows is not None]
        for rows in (parting(house, second), parting(second, house)):
            if not found:
                self.assertIsNone(rows)
            else:
                self.assertEqual(len(rows), min(len(each) for each in found))
                self.assertIs(house.accepts(rows) != second.accepts(rows), True)

    def check_search(self, plan, other, most=3, most_bases=2):
        """That no break is shorter, by a full search."""
        rows = first_break(house_of(plan), house_of(other))
        limit = most if rows is None else min(most, len(rows) - 1)
        found = shortest_break(Plain(plan), Plain(other), limit, most_bases)
        self.assertIsNone(found, (plan, other, rows))


class NoBreak(Breaks):
    plan = plan_of([c("a"), c("b", "a")], [m("a", "f", "protected"), m("a", "k", "package"), m("b", "k")])

    def test_a_house_and_its_copy(self):
        house = house_of(self.plan)
        for other in (house, House(house.library(), house.book), house.releveled({}), house.moved("a", "p")):
            self.assertIsNone(first_break(house, other))
            self.assertIsNone(first_break(other, house))
            self.assertIsNone(parting(house, other))
        self.assertIsNone(first_break(House(Library(), Book([])), House(Library(), Book([]))))

    def test_wider_in_every_respect(self):
        wider = changed(self.plan, book=[(level, "any") for level, _ in self.plan["book"]] + [("more", "own")])
        self.check(self.plan, wider, None)
        self.check(wider, self.plan, 1)

    def test_uses_do_not_count(self):
        self.check(self.plan, changed(self.plan, uses=[("a", "read", "f", "a", None)]), None)

    def test_names_of_levels_do_not_count_without_methods(self):
        plan = plan_of([c("a", maker="x")], [m("a", "f", "x"), m("a", "s", "y")], book=[("x", "any"), ("y", "own")])
        other = plan_of([c("a", maker="v")], [m("a", "f", "v"), m("a", "s", "w")], book=[("w", "own"), ("v", "any")])
        self.check(plan, other, None)
        self.check(other, plan, None)

    def test_what_no_later_code_reaches(self):
        plan = plan_of([c("a", maker="own"), c("b", inside="a", maker="own")], [m("a", "f", "own")],
                       book=[("own", "own"), ("around", "nested|around")])
        self.check(plan, changed(plan, members=[m("a", "f", "around")]), None)
        self.check(changed(plan, members=[m("a", "f", "around")]), plan, None)
        sealed = changed(plan, packages=[("p", True), ("q", False)], members=[m("a", "f", "near")],
                         book=[("own", "own"), ("near", "package")])
        self.check(sealed, changed(sealed, members=[m("a", "f", "own")]), None)

    def test_a_package_that_nobody_uses(self):
        more = changed(self.plan, packages=[*self.plan["packages"], ("r", False)])
        self.check(self.plan, more, None)
        self.check(more, self.plan, None)


class OneRow(Breaks):
    plan = NoBreak.plan

    def test_sealing(self):
        for package in "pq":
            sealed = changed(self.plan, packages=[(name, name == package) for name in "pq"])
            self.check(self.plan, sealed, 1)
            self.check(sealed, self.plan, None)
        more = changed(self.plan, packages=[*self.plan["packages"], ("r", True)])
        rows = self.check(self.plan, more, 1)
        self.assertEqual(rows[0][2], "r")
        self.check(more, self.plan, None)
        self.check(plan_of(book=[]), plan_of(packages=[("p", True)], book=[]), 1)

    def test_maker(self):
        for level, length in (("public", None), ("protected", None), ("package", 1), ("private", 1)):
            other = changed(self.plan, classes=[c("a", maker=level), c("b", "a")])
            self.check(changed(self.plan, classes=[c("a", maker="protected"), c("b", "a")]), other, length)
            self.check(self.plan, other, length or (2 if level == "protected" else None))

    def test_package_of_a_base(self):
        plan = plan_of([c("a", maker="package")])
        rows = self.check(plan, plan_of([c("a", maker="package", package="q")]), 1)
        self.assertEqual(rows, [("class", rows[0][1], "p", None, ("a",), ())])

    def test_a_level_less(self):
        plan = plan_of([c("a")], [m("a", "k", "protected")])
        for level, length in (("private", None), ("package", None)):
            self.check(plan, changed(plan, book=[pair for pair in plan["book"] if pair[0] != level]), length)
        plan = changed(plan, book=[*plan["book"], ("same", "package|below"), ("wide", "any"), ("across", "heir")])
        for level, length in (("same", 1), ("wide", 1), ("across", None)):
            other = changed(plan, book=[pair for pair in plan["book"] if pair[0] != level])
            rows = self.check(plan, other, length)
            self.check(other, plan, None)
            if length:
                self.assertEqual(rows[0][5], (("k", level),))

    def test_a_level_less_without_a_method_that_is_seen(self):
        book = [("low", "own"), ("x", "any")]
        plan = plan_of([c("a", maker="x")], [m("a", "k", "low"), m("a", "f", "x")], book=book)
        self.check(plan, changed(plan, book=[*book, ("y", "any")]), None)
        self.check(changed(plan, book=[*book, ("y", "any")]), plan, None)

    def test_body_that_is_not_seen_or_not_wide(self):
        book = [("low", "below"), ("mid", "below|package"), ("public", "any")]
        plan = plan_of([c("a"), c("b", "a")], [m("a", "k", "low")], book=book)
        rows = self.check(plan, changed(plan, members=[m("a", "k", "mid")]), 1)
        self.assertEqual(rows[0][5], (("k", "low"),))
        narrower = changed(plan, book=[("low", "below&package"), *book[1:]])
        self.check(plan, narrower, 1)
        unordered = changed(plan, book=[("low", "below"), ("mid", "package"), ("public", "any")])
        rows = self.check(plan, unordered, 1)
        self.assertEqual(rows[0][5], (("k", "mid"),))


class TwoRows(Breaks):
    def test_act_of_each_way(self):
        classes = [c("a"), c("b", "a")]
        members = {
            "f": m("a", "f", "any", write="any"), "k": m("a", "k", "any"), "s": m("a", "s", "any"),
        }
        book = [("any", "any"), ("far", "any"), ("near", "package"), ("public", "any")]
        for name, member in members.items():
            plan = plan_of(classes, [member], book=book)
            level, write = member[3:]
            for other, way in (((*member[:3], "near", write), "read" if name == "f" else "call"),
                               ((*member[:3], level, "near"), "write")):
                if way == "write" and name != "f":
                    continue
                narrower = plan_of(classes, [other], book=book)
                if name != "k":
                    rows = self.check(plan, narrower, 2)
                    self.assertEqual(rows[1][2:4], (way, name))
                    self.check(narrower, plan, None)
        plan = plan_of([c("a"), c("b", "a", maker="below")], book=[("public", "any"), ("below", "below")])
        rows = self.check(plan_of([c("a"), c("b", "a")], book=plan["book"]), plan, 2)
        self.assertEqual(rows[1][2:], ("make", "new", "b", None))

    def test_package_of_the_owner(self):
        plan = plan_of([c("a")], [m("a", "f", "package")])
        rows = self.check(plan, plan_of([c("a", package="q")], [m("a", "f", "package")]), 2)
        self.assertEqual(rows[0][2], "p")
        inside = plan_of([c("e"), c("a", inside="e")], [m("a", "f", "package")])
        self.check(inside, plan_of([c("e", package="q"), c("a", inside="e")], [m("a", "f", "package")]), 2)

    def test_owner_that_is_heard_of_in_its_package_only_before(self):
        plan = plan_of([c("a", package="far0")], [m("a", "s", "package")], packages=[("far0", False), ("p", False)])
        rows = self.check(plan, plan_of([c("a")], [m("a", "s", "package")], packages=[("p", False)]), 2)
        self.assertEqual(rows[0][2], "far0")

    def test_two_bodies(self):
        """The level of a later body is not as it was to classes below in another package, or not as tight."""
        book = [("low", "below&package"), ("x", "below"), ("y", "below|package"), ("public", "any")]
        plan = plan_of([c("a")], [m("a", "k", "low")], book=book)
        other = changed(plan, book=[book[0], ("x", "below&package"), *book[2:]])
        rows = self.check(plan, other, 2)
        self.assertEqual([len(row[5]) for row in rows], [1, 1])
        self.assertNotEqual(rows[0][2], rows[1][2])
        other = changed(plan, book=[*book[:2], ("y", "package"), book[3]])
        rows = self.check(plan, other, 2)
        self.assertEqual([row[5] for row in rows], [(("k", "x"),), (("k", "y"),)])

    def test_body_in_the_second_class(self):
        """b may be a base near it only, a's method is seen near a only."""
        book = [("near", "package"), ("no", "-"), ("low", "below&package"), ("x", "package"), ("public", "any")]
        plan = plan_of([c("a", package="q", maker="no"), c("b", "a", maker="near")], [m("a", "k", "low")], book=book)
        other = changed(plan, book=[*book[:3], ("x", "own"), book[4]])
        rows = self.check(plan, other, 2)
        self.assertEqual([row[5] for row in rows], [(), (("k", "x"),)])
        # For the call of the method itself, the class that is below b needs a body no more: three rows.
        plan = changed(plan, members=[m("a", "f", "low", write="no")])
        self.check(plan, changed(plan, members=[m("a", "f", "no", write="no")]), 3)


class ThreeRows(Breaks):
    """x is the level of later bodies only."""

    def plan(self, rule):
        return plan_of([c("a", maker="public")], [m("a", "k", "low")], packages=[("p", False)],
                       book=[("low", "below&package"), ("x", rule), ("none", "-"), ("public", "below")])

    def test_callers_of_a_later_body(self):
        for rule, less in (
            ("below|around", "below"), ("below|package", "below|around"), ("heir", "heir&package|below"),
            ("below|package", "below"), ("any", "heir|package"), ("heir|package", "heir|around"),
            ("below&package|around", "nested|below&package"), ("heir&package", "below&package"),
        ):
            rows = self.check(self.plan(rule), self.plan(less), 3)
            self.assertEqual(rows[-1][2:4], ("call", "k"))
            self.check_search(self.plan(rule), self.plan(less), 2)

    def test_inside_of_the_class_is_no_difference(self):
        """Where the method was seen, its rule lets classes inside, too."""
        self.check(self.plan("below"), self.plan("below|nested"), None)
        self.check(self.plan("below|nested"), self.plan("below"), None)

    def test_act_after_two_classes(self):
        book = [("near", "package"), ("heirs", "below&package"), ("none", "-")]
        classes = [c("a", package="q", maker="none"), c("b", "a", maker="near")]
        for member in (m("a", "f", "heirs", write="none"), m("a", "s", "heirs")):
            plan = plan_of(classes, [member], book=book)
            other = plan_of(classes, [(*member[:3], "none", member[4])], book=book)
            rows = self.check(plan, other, 3)
            self.assertEqual([row[0] for row in rows], ["class", "class", "act"])
            self.check_search(plan, other, 2)

    def test_two_bodies_after_a_class(self):
        """The bodies of three classes: none, x, y."""
        book = [("near", "package"), ("none", "-"), ("low", "below&package"), ("x", "below"), ("y", "below|package")]
        plan = plan_of([c("a", package="q", maker="none"), c("b", "a", maker="near")], [m("a", "k", "low")], book=book)
        other = changed(plan, book=[*book[:4], ("y", "package")])
        rows = self.check(plan, other, 3)
        self.assertEqual([row[5] for row in rows], [(), (("k", "x"),), (("k", "y"),)])
        self.check_search(plan, other, 2)


class TwoClassesFirst(Breaks):
    """b may be a base near it only, a's method is seen near a only."""

    def plan(self, rule):
        return plan_of(
            [c("a", package="q", maker="none"), c("b", "a", maker="low")], [m("a", "k", "low")],
            book=[("none", "-"), ("low", "below&package"), ("x", rule)],
        )

    def test_calls_by_the_first_class(self):
        """Three rows: the class that is below b is elsewhere than the class below it."""
        for rule, less in (("any", "heir|package"), ("any", "heir"), ("any", "below|package")):
            rows = self.check(self.plan(rule), self.plan(less), 3)
            self.assertEqual(rows[2], ("act", rows[0][1], "call", "k", rows[1][1], rows[1][1]))
        self.check_search(self.plan("any"), self.plan("heir|package"), 2)

    def test_calls_by_a_third_class(self):
        for rule, less in (
            ("below|around", "below"), ("below|package", "below|around"), ("heir", "below"),
            ("heir|package", "below|package"), ("heir&package|below", "below"),
        ):
            rows = self.check(self.plan(rule), self.plan(less), 4)
            self.assertEqual([row[0] for row in rows], ["class", "class", "class", "act"])
        self.check_search(self.plan("heir"), self.plan("below"), 3, 1)

    def test_calls_around(self):
        rows = first_break(house_of(self.plan("below|around")), house_of(self.plan("below")))
        self.assertEqual([(row[3], len(row[5])) for row in rows[:3]], [(None, 0), (None, 0), (rows[1][1], 1)])

    def test_by_chance(self):
        source = random.Random(19)
        lengths = {}
        for _ in range(120):
            plan = self.plan(source.choice(RULES))
            if source.random() < 0.3:
                plan["book"].append(("y", source.choice(RULES)))
            other = changed(plan, book=[
                (level, source.choice(RULES) if level in ("x", "y") else rule) for level, rule in plan["book"]])
            rows = first_break(house_of(plan), house_of(other))
            self.check(plan, other, None if rows is None else len(rows))
            self.check_search(plan, other, 2)
            lengths[rows and len(rows)] = lengths.get(rows and len(rows), 0) + 1
        self.assertEqual(set(lengths), {None, 2, 3, 4})


class UnlikeHouses(unittest.TestCase):
    classes = [c("a"), c("b", "a"), c("d", "a"), c("e", inside="d"), c("g", "be")]
    members = [m("a", "k"), m("b", "k"), m("a", "f"), m("e", "s")]

    def check(self, classes=None, members=None, unlike=True):
        one = house_of(plan_of(self.classes, self.members))
        two = house_of(plan_of(classes or self.classes, self.members if members is None else members))
        for call in (first_break, parting):
            for pair in ((one, two), (two, one)):
                if unlike:
                    with self.assertRaises(Unlike) as caught:
                        call(*pair)
                    self.assertEqual((caught.exception.what, caught.exception.row), (None, None))
                else:
                    self.assertIsNone(call(*pair))

    def test_alike(self):
        self.check(unlike=False)

    def test_classes(self):
        a, b, d, e, g = self.classes
        self.check([a, b, d, e, g, c("h")])
        self.check([a, b, d, e])
        self.check([a, b, d, e, c("h", "be")])
        self.check([a, d, b, e, g])
        self.check([a, b, d, c("e", inside="b"), g])
        self.check([a, b, d, c("e"), g])
        self.check([a, c("b"), d, e, g], [m("a", "f"), m("e", "s")])
        self.check([a, b, d, e, c("g", "b")])
        self.check([a, b, d, e, c("g", "eb")])
        self.check([a, b, c("d", inside="a"), e, g])

    def test_declarations(self):
        k, again, f, s = self.members
        self.check(members=[])
        self.check(members=[k, again, f])
        self.check(members=[k, again, f, s, m("g", "k")])
        self.check(members=[k, again, f, m("d", "s")])
        self.check(members=[k, again, m("a", "f", kind="method"), s])
        self.check(members=[k, again, f, m("e", "s", kind="field")])
        self.check(members=[k, again, m("a", "g"), s])
        self.check(members=[k, again, s, f])
        self.check(members=[k, f, again, s])

    def test_what_does_not_count(self):
        one = house_of(plan_of(self.classes, self.members))
        two = house_of(plan_of(
            [c("a", package="q", maker="private"), c("b", "a", "r", maker="x"), c("d", "a", package="r"),
             c("e", inside="d"), c("g", "be", "r")],
            [m("a", "k", "x"), m("b", "k", "private"), m("a", "f", write="x"), m("e", "s", "x")],
            [("a", "make", "new", "a", None)], packages=[("q", True), ("r", False)],
            book=[("x", "own"), ("private", "own"), ("public", "any")],
        ))
        self.assertIsNotNone(first_break(one, two))
        self.assertIsNotNone(parting(two, one))


class Books(Breaks):
    """Point 6: books that are <= part houses only so far as their houses do."""

    def test_a_book_below_another_one_has_no_break(self):
        chance = Chance(random.Random(3), packages=2, classes=3, members=4, uses=0, levels=3)
        compared = 0
        for _ in range(400):
            plan = chance.plan()
            book = [(level, chance.source.choice(RULES)) for level, _ in plan["book"]]
            house, other = house_of(plan), house_of(dict(plan, book=book))
            if house.book <= other.book:
                compared += 1
                self.assertIsNone(first_break(house, other), (plan, book))
        self.assertGreater(compared, 20)

    def test_a_level_more(self):
        plan = plan_of([c("a")], [m("a", "k")])
        more = changed(plan, book=[*plan["book"], ("extra", "any")])
        self.assertIs(book_of(plan["book"]) <= book_of(more["book"]), True)
        self.check(plan, more, None)
        rows = self.check(more, plan, 1)
        self.assertEqual(rows[0][5], (("k", "extra"),))


class Names(Breaks):
    def test_names_that_the_libraries_have(self):
        names = [f"{stem}{at}" for stem in ("later", "far") for at in range(6)]
        packages = [(name, True) for name in ("p", *names)]
        classes = [c("a"), *(c(name) for name in names)]
        for rule, less, length in (("any", "package", 1), ("any", "below", 2), ("below|package", "below", 3)):
            one, two = (plan_of(classes, [m("a", "k", "low")], packages=packages,
                                book=[("low", "below"), ("x", each), ("public", "any")]) for each in (rule, less))
            self.check(one, two, length)

    def test_packages_of_both_libraries(self):
        plan = plan_of([c("a", package="q")], [m("a", "f", "package")], packages=[("q", True)])
        other = plan_of([c("a", package="far0")], [m("a", "f", "package")], packages=[("far0", True), ("q", True)])
        self.check(plan, other, 1)
        self.check(other, plan, None)


class Searches(Breaks):
    """Against a full search over programs of a few classes, with nesting and bodies, and a last row."""

    def other(self, source, plan):
        """The plan with a few changes."""
        plan = copy.deepcopy(plan)
        levels = [level for level, _ in plan["book"]]
        for _ in range(source.choice((1, 1, 2))):
            what = source.choice(("book", "book", "book", "packages", "classes", "members"))
            if not plan[what]:
                continue
            at = source.randrange(len(plan[what]))
            old = plan[what][at]
            if what == "book":
                new = (old[0], source.choice(RULES))
            elif what == "packages":
                new = (old[0], not old[1])
            elif what == "classes":
                package = source.choice(plan["packages"])[0] if old[2] is None else None
                new = (old[0], package, *old[2:4], source.choice((old[4], source.choice(levels))))
            else:
                new = (*old[:3], source.choice(levels), old[4] and source.choice(levels))
            plan[what][at] = new
        return plan

    def search(self, chance, count, most, most_bases):
        lengths = {}
        for _ in range(count):
            plan = chance.plan()
            other = self.other(chance.source, plan)
            for one, two in ((plan, other), (other, plan)):
                rows = first_break(house_of(one), house_of(two))
                self.check(one, two, None if rows is None else len(rows), False)
                self.check_search(one, two, most, most_bases)
                lengths[rows and len(rows)] = lengths.get(rows and len(rows), 0) + 1
            self.check_parting(plan, other)
        return lengths

    def test_two_rows(self):
        chance = Chance(random.Random(11), packages=2, classes=3, members=4, uses=0, levels=4)
        lengths = self.search(chance, 60, 2, 2)
        self.assertTrue({None, 1, 2} <= set(lengths), lengths)

    def test_three_rows(self):
        chance = Chance(random.Random(12), packages=1, classes=1, members=2, uses=0, levels=3)
        self.search(chance, 25, 3, 1)

    def test_all_breaks_of_one_row(self):
        """Each is accepted by the first house and refused by the second, so the search itself is sound."""
        plan = plan_of([c("a")], [m("a", "k", "protected")], packages=[("p", False)])
        other = changed(plan, packages=[("p", True)])
        found = list(breaks(Plain(plan), Plain(other), 1))
        self.assertEqual(len(found), 1 + 1 + 2)
        for rows in found:
            self.assertIs(house_of(plan).accepts(rows), True)
            self.assertIs(house_of(other).accepts(rows), False)
        self.assertIn([row("n0", "a", bodies=[("k", "public")])], found)
        self.assertNotIn([row("n0"), act("n0", "make", "new", "a", None)], found)


if __name__ == "__main__":
    unittest.main()
