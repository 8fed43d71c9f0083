"""Point 21: the tightest levels, and what stands against a tighter one."""

import itertools
import random
import unittest

from tests.making import USUAL, Chance, c, house_of, m, plan_of, use
from tests.plain import Plain
from tests.support import Refusals, seen_of_house
from whomayname.errors import Unknown
from whomayname.levels import against, tightest


def let_with(plain, levels):
    """The set of present uses that are let if the marks get other levels."""
    made = plain.extended()
    made.levels.update(levels)
    return {use for use, let in made.present().items() if let}


class Tightest(unittest.TestCase):
    def check_properties(self, plan, told):
        plain = Plain(plan)
        rules, let = plain.rules, let_with(plain, {})
        self.assertEqual(set(told), set(plain.levels))
        self.assertTrue(all(rules[told[mark]] <= rules[plain.levels[mark]] for mark in told), (plan, told))
        self.assertTrue(let <= let_with(plain, told), (plan, told))
        for mark, level in itertools.product(told, rules):
            if rules[level] < rules[told[mark]]:
                self.assertFalse(let <= let_with(plain, told | {mark: level}), (plan, told, mark, level))

    def check(self, plan, **expected):
        """Expected gives levels by class and name, for fields also class, name and way."""
        house = house_of(plan)
        before = seen_of_house(house)
        told = tightest(house)
        self.assertIs(type(told), dict)
        self.assertEqual(seen_of_house(house), before)
        self.check_properties(plan, told)
        for key, level in expected.items():
            owner, name, *way = key.split("_")
            marks = [mark for mark in told if mark[:2] == (owner, name) and mark[2:] == (*way, mark[2])[:1]]
            self.assertEqual([told[mark] for mark in marks], [level], key)
        told.clear()
        self.assertEqual(set(tightest(house)), set(Plain(plan).levels))


class ByHand(Tightest):
    def test_empty_house(self):
        self.assertEqual(tightest(house_of(plan_of())), {})
        self.assertEqual(tightest(house_of(plan_of(book=[]))), {})

    def test_no_uses(self):
        plan = plan_of([c("a")], [m("a", "f"), m("a", "k", "protected"), m("a", "s", "private")])
        self.check(plan, a_new="private", a_f_read="private", a_f_write="private", a_k="private", a_s="private")
        self.check(dict(plan, book=[*USUAL, ("none", "-")]), a_new="none", a_f_read="none", a_k="none", a_s="none")

    def test_each_mark_by_its_uses(self):
        plan = plan_of(
            [c("a"), c("b"), c("d", "a", package="q"), c("e", inside="a")],
            [m("a", "f"), m("a", "k"), m("a", "s"), m("e", "f2")],
            [use("b", "read", "f", "a"), use("e", "write", "f", "d"), use("d", "call", "k", "d"),
             use("b", "call", "s", "d"), use("d", "call", "s", "a"), use("a", "write", "f2", "e")],
        )
        self.check(plan, a_new="protected", b_new="private", d_new="private", e_new="private", a_f_read="package",
                   a_f_write="private", a_k="protected", a_s="public", e_f2_read="private", e_f2_write="private")

    def test_bases_keep_makers(self):
        plan = plan_of([c("a"), c("b", "a"), c("d", "b", package="q"), c("e", "d", inside="b")])
        self.check(plan, a_new="package", b_new="protected", d_new="protected", e_new="private")

    def test_elder_calls_and_bodies(self):
        plan = plan_of([c("a"), c("b", "a", package="q")], [m("a", "k"), m("a", "j"), m("a", "f")],
                       [use("b", "elder", "k", "a"), use("a", "call", "j", "a", "k"), use("a", "read", "f", "a", "j")])
        self.check(plan, a_k="protected", a_j="private", a_f_read="private")

    def test_a_body_keeps_both_declarations(self):
        """b must see a's declaration, and may be no tighter than it."""
        plan = plan_of([c("a"), c("b", "a"), c("d", "b")], [m("a", "k"), m("b", "k"), m("d", "k")])
        self.check(plan, a_k="package", b_k="package", d_k="package")
        plan["members"].reverse()
        plan["members"] = [plan["members"][2], *plan["members"][:2]]
        self.check(plan, a_k="package", b_k="package", d_k="package")
        plan = plan_of([c("a"), c("b", "a"), c("d", "b", package="q")], [m("a", "k"), m("b", "k"), m("d", "k")])
        self.check(plan, a_k="package", b_k="protected", d_k="protected")

    def test_a_body_waits_for_the_one_above_it(self):
        """Of a below b below d, d's mark comes first."""
        plan = plan_of([c("d"), c("b", "d"), c("a", "b")], [m("d", "k"), m("a", "k"), m("b", "k")],
                       [use("b", "call", "k", "d")])
        self.check(plan, d_k="package", b_k="package", a_k="package")

    def test_uses_that_are_not_let_keep_nothing(self):
        plan = plan_of([c("a", maker="private"), c("b", "a")], [m("a", "f", "package")],
                       [use("b", "make", "new", "a"), use("b", "write", "f", "a")])
        self.check(plan, a_new="private", a_f_write="package", a_f_read="private")
        broken = plan_of([c("a"), c("b", "a")], [m("a", "k", "public"), m("b", "k", "protected")])
        self.check(broken, a_k="private", b_k="private")

    def test_never_a_level_that_is_not_below_the_present_one(self):
        """far would do for the use, but is not below near."""
        book = [("far", "heir"), ("near", "package"), ("wide", "package|heir")]
        plan = plan_of([c("a", maker="near"), c("b", "a", maker="near")], [m("a", "f", "near", write="wide")],
                       [use("b", "read", "f", "a"), use("b", "write", "f", "a")], book=book)
        told = tightest(house_of(plan))
        self.assertEqual(told["a", "f", "read"], "near")
        self.assertIn(told["a", "f", "write"], ("far", "near"))
        self.check(plan)

    def test_levels_with_equal_rules(self):
        book = [("one", "package"), ("two", "package"), ("three", "any"), ("four", "any")]
        plan = plan_of([c("a", maker="three"), c("b", "a", maker="four")], book=book)
        told = tightest(house_of(plan))
        self.assertIn(told["a", "new", "make"], ("one", "two"))
        self.check(plan)

    def test_by_the_house_s_book(self):
        plan = plan_of([c("a"), c("b")], [], [use("b", "make", "new", "a")])
        house = house_of(plan)
        self.assertEqual(tightest(house)["a", "new", "make"], "package")
        house.book = house_of(dict(plan, book=[("package", "heir"), ("public", "any")])).book
        self.assertEqual(tightest(house)["a", "new", "make"], "public")


class Against(unittest.TestCase, Refusals):
    def check(self, plan):
        house, plain = house_of(plan), Plain(plan)
        before = seen_of_house(house)
        let = let_with(plain, {})
        found = {}
        for mark, level in itertools.product(plain.levels, plain.rules):
            lost = let - let_with(plain, {mark: level})
            told = against(house, mark, level)
            if lost:
                self.assertIn(told, lost, (plan, mark, level))
                found[told[0]] = True
            else:
                self.assertIsNone(told, (plan, mark, level))
        self.assertEqual(seen_of_house(house), before)
        return found

    def test_each_level_of_each_mark(self):
        plan = plan_of(
            [c("a"), c("b", "a", package="q"), c("d", inside="a", maker="private")],
            [m("a", "f", "protected", write="private"), m("a", "k", "package"), m("b", "k"), m("a", "s")],
            [use("b", "read", "f", "b"), use("d", "write", "f", "a"), use("b", "write", "f", "a"),
             use("b", "call", "s", "a", "k"), use("b", "elder", "k", "a")],
        )
        self.assertEqual(set(self.check(plan)), {"use", "base"})
        house = house_of(plan)
        self.assertEqual(against(house, ("a", "f", "read"), "package"), ("use", "b", "read", "f", "b", None))
        self.assertEqual(against(house, ("a", "f", "write"), "package"), None)
        self.assertEqual(against(house, ("a", "s", "call"), "protected"), ("use", "b", "call", "s", "a", "k"))
        self.assertEqual(against(house, ("a", "new", "make"), "private"), ("base", "b", "a"))
        self.assertIsNone(against(house, ("b", "new", "make"), "private"))

    def test_bodies_are_against_wider_and_tighter_levels(self):
        plan = plan_of([c("a"), c("b", "a")], [m("a", "k", "package"), m("b", "k", "package")])
        house = house_of(plan)
        for mark, level in ((("a", "k", "call"), "private"), (("a", "k", "call"), "protected"),
                            (("a", "k", "call"), "public"), (("b", "k", "call"), "private")):
            self.assertEqual(against(house, mark, level), ("body", "b", "k"))
        for mark, level in ((("a", "k", "call"), "package"), (("b", "k", "call"), "public")):
            self.assertIsNone(against(house, mark, level))
        self.check(plan)

    def test_uses_that_are_not_let_are_against_nothing(self):
        plan = plan_of([c("a", maker="private"), c("b")], [], [use("b", "make", "new", "a")],
                       book=[*USUAL, ("none", "-")])
        house = house_of(plan)
        for level, _ in plan["book"]:
            self.assertIsNone(against(house, ("a", "new", "make"), level))

    def test_unknown(self):
        house = house_of(plan_of([c("a")]))
        self.assert_refused(Unknown, ("a", "f", "read"), against, house, ("a", "f", "read"), "public")
        self.assert_refused(Unknown, "none", against, house, ("a", "new", "make"), "none")

    def test_by_chance(self):
        chance = Chance(random.Random(17), classes=4, members=6, uses=6, levels=4)
        found = {}
        for _ in range(60):
            found.update(self.check(chance.plan()))
        self.assertEqual(set(found), {"use", "base", "body"})


class Searches(Tightest):
    def test_small_houses_against_a_full_search(self):
        """Of all levels that lose nothing, the told ones are among those that none is tighter than by one mark."""
        chance = Chance(random.Random(18), packages=2, classes=3, members=3, uses=4, levels=3)
        for _ in range(60):
            plan = chance.plan()
            plain = Plain(plan)
            rules, marks, let = plain.rules, list(plain.levels), let_with(plain, {})
            keeping = set()
            for levels in itertools.product(rules, repeat=len(marks)):
                if len(marks) > 6:
                    break
                given = dict(zip(marks, levels))
                if all(rules[given[mark]] <= rules[plain.levels[mark]] for mark in marks):
                    if let <= let_with(plain, given):
                        keeping.add(levels)
            told = tightest(house_of(plan))
            self.check_properties(plan, told)
            if keeping:
                levels = tuple(told[mark] for mark in marks)
                self.assertIn(levels, keeping)
                for other in keeping:
                    changed = [at for at in range(len(marks)) if levels[at] != other[at]]
                    self.assertFalse(len(changed) == 1 and rules[other[changed[0]]] < rules[levels[changed[0]]])

    def test_larger_houses(self):
        chance = Chance(random.Random(20))
        for _ in range(120):
            plan = chance.plan()
            self.check_properties(plan, tightest(house_of(plan)))


if __name__ == "__main__":
    unittest.main()
