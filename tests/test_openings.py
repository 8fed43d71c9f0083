"""Point 22: openings for wishes."""

import itertools
import random
import unittest

from tests.making import USUAL, Chance, c, house_of, m, plan_of, use
from tests.plain import Plain
from tests.support import seen_of_house
from whomayname.levels import openings


def with_levels(plain, levels):
    made = plain.extended()
    made.levels.update(levels)
    return made


def let_of(plain):
    return {use for use, let in plain.present().items() if let}


def grants(plain, wish):
    place, way, name, target = wish
    return any(plain.lets(*plain.concern(place, way, name, through))
               for through in plain.up(target) if plain.has(through, name))


def will_do(plain, wishes, levels):
    made = with_levels(plain, levels)
    return all(grants(made, wish) for wish in wishes) and let_of(plain) <= let_of(made)


def fewest(plain, wishes):
    """The least number of marks with strictly wider levels, by a full search, or None."""
    names = {(name, way) for _, way, name, _ in wishes}
    marks = [mark for mark in plain.levels if mark[1:] in names]
    wider = {mark: [level for level in plain.rules if plain.rules[level] > plain.rules[plain.levels[mark]]]
             for mark in marks}
    for count in range(len(marks) + 1):
        for some in itertools.combinations(marks, count):
            for levels in itertools.product(*(wider[mark] for mark in some)):
                if will_do(plain, wishes, dict(zip(some, levels))):
                    return count
    return None


class Openings(unittest.TestCase):
    def check(self, plan, wishes, count):
        """That so many marks are changed, None for no levels that will do."""
        house, plain = house_of(plan), Plain(plan)
        before, asked = seen_of_house(house), list(wishes)
        told = openings(house, wishes)
        self.assertEqual((seen_of_house(house), wishes), (before, asked))
        if count is None:
            self.assertIsNone(told, (plan, wishes))
            return None
        self.assertIs(type(told), dict)
        self.assertEqual(len(told), count, (plan, wishes, told))
        for mark, level in told.items():
            self.assertLess(plain.rules[plain.levels[mark]], plain.rules[level])
        self.assertTrue(will_do(plain, wishes, told), (plan, wishes, told))
        return told


class ByHand(Openings):
    def test_no_wishes(self):
        self.check(plan_of(), [], 0)
        self.check(plan_of([c("a")], [m("a", "f", "private")]), [], 0)

    def test_nothing_has_to_be_changed(self):
        plan = plan_of([c("a"), c("b", "a", package="q")], [m("a", "f", "protected"), m("a", "s"), m("a", "k")])
        self.check(plan, [("b", "read", "f", "b"), ("a", "write", "f", "b"), ("b", "call", "s", "b"),
                          ("b", "call", "k", "a")], 0)

    def test_each_way(self):
        plan = plan_of([c("a"), c("b"), c("d", "a", package="q")], [
            m("a", "f", "private"), m("a", "k", "private"), m("a", "s", "private")])
        for way, name in (("read", "f"), ("write", "f"), ("call", "k"), ("call", "s")):
            told = self.check(plan, [("b", way, name, "d")], 1)
            self.assertEqual([mark for mark in told], [("a", name, way)])
            self.assertIn(told["a", name, way], ("package", "protected", "public"))
            told = self.check(plan, [("b", way, name, "a"), ("d", way, name, "a")], 1)
            self.assertEqual(told, {("a", name, way): "public"})
        self.check(plan, [("b", "read", "f", "a"), ("b", "write", "f", "a"), ("b", "call", "k", "d"),
                          ("b", "call", "s", "d")], 4)

    def test_the_same_wish_twice(self):
        plan = plan_of([c("a"), c("b")], [m("a", "f", "private")])
        self.check(plan, [("b", "read", "f", "a"), ("b", "read", "f", "a")], 1)

    def test_no_levels_will_do(self):
        plan = plan_of([c("a"), c("b", package="q")], [m("a", "f", "private"), m("a", "s", "private")], book=USUAL[:3])
        plan["classes"] = [c("a", maker="private"), c("b", package="q", maker="private")]
        self.check(plan, [("b", "read", "f", "a")], None)
        self.check(plan, [("a", "read", "f", "a"), ("b", "call", "s", "a")], None)
        # The level that would let it is not wider than the present one.
        across = dict(plan, book=[("private", "nested|around"), ("package", "package&heir"), ("protected", "any&heir")])
        self.check(across, [("b", "read", "f", "a")], None)
        self.check(dict(across, book=[*across["book"], ("public", "any")]), [("b", "read", "f", "a")], 1)

    def test_through_the_target_counts_for_below(self):
        plan = plan_of([c("a"), c("b", "a", package="q"), c("d", "b", package="q")], [m("a", "f", "private")],
                       book=[("private", "own"), ("below", "below"), ("public", "below|around")])
        told = self.check(plan, [("b", "read", "f", "d")], 1)
        self.assertIn(told["a", "f", "read"], ("below", "public"))
        self.check(plan, [("b", "read", "f", "a")], None)

    def test_through_the_target_or_a_class_above_it(self):
        """Of a, b below it and d below b, each with its own level of k."""
        classes = [c("a"), c("b", "a"), c("d", "b"), c("e", package="q")]
        for levels, count in (
            (("public", "private", "private"), 0), (("private", "public", "private"), 0),
            (("private", "private", "public"), 0), (("private", "private", "private"), 1),
            (("package", "protected", "package"), 1),
        ):
            plan = plan_of(classes, [m(owner, "k", level) for owner, level in zip("abd", levels)])
            told = self.check(plan, [("e", "call", "k", "d")], count)
            if count:
                self.assertEqual(list(told.values()), ["public"])
        plan = plan_of(classes, [m("a", "k", "private"), m("b", "k", "public"), m("d", "k", "private")])
        # a's mark is opened for the other wish, b's stays.
        told = self.check(plan, [("e", "call", "k", "a"), ("e", "call", "k", "d")], 1)
        self.assertEqual(told, {("a", "k", "call"): "public"})

    def test_bodies_have_to_stay_wide(self):
        """a's mark alone would leave b's and d's declarations narrow; d's alone is enough where it will do."""
        classes = [c("a"), c("b", "a"), c("d", "b"), c("e", package="q")]
        plan = plan_of(classes, [m(owner, "k", "package") for owner in "abd"])
        told = self.check(plan, [("e", "call", "k", "d")], 1)
        self.assertEqual(told, {("d", "k", "call"): "public"})
        told = self.check(plan, [("e", "call", "k", "b")], 2)
        self.assertEqual(told, {("b", "k", "call"): "public", ("d", "k", "call"): "public"})
        told = self.check(plan, [("e", "call", "k", "a"), ("e", "call", "k", "d")], 3)
        self.assertEqual(set(told.values()), {"public"})

    def test_bodies_that_are_not_let_may_stay_narrow(self):
        classes = [c("a"), c("b", "a"), c("e", package="q")]
        plan = plan_of(classes, [m("a", "k", "protected"), m("b", "k", "package")])
        self.check(plan, [("e", "call", "k", "a")], 1)
        self.check(plan, [("e", "call", "k", "b")], 1)
        plan = plan_of(classes, [m("a", "k", "package"), m("b", "k", "package")])
        self.check(plan, [("e", "call", "k", "a")], 2)

    def test_a_body_that_cannot_be_made_wide(self):
        book = [("near", "package"), ("wide", "package|below"), ("other", "package|heir"), ("public", "package|below")]
        classes = [c("a"), c("b", "a"), c("e", "a", package="q")]
        members = [m("a", "k", "near"), m("b", "k", "other")]
        self.check(plan_of(classes, members, book=book), [("e", "call", "k", "e")], 1)
        members = [m("a", "k", "near"), m("b", "k", "near")]
        self.check(plan_of(classes, members, book=book), [("e", "call", "k", "e")], 2)
        book[2] = ("other", "package|around")
        self.check(plan_of(classes, members, book=book), [("e", "call", "k", "a")], None)
        book.append(("far", "package|heir"))
        self.check(plan_of(classes, members, book=book), [("e", "call", "k", "a")], 2)

    def test_two_wishes_that_need_one_wide_level(self):
        book = [("low", "own"), ("x", "around"), ("y", "nested"), ("both", "around|nested")]
        plan = plan_of([c("a", maker="low"), c("b", inside="a", maker="low"), c("d", inside="b", maker="low")],
                       [m("b", "f", "low")], book=book)
        self.assertEqual(self.check(plan, [("a", "read", "f", "b"), ("d", "read", "f", "b")], 1),
                         {("b", "f", "read"): "both"})
        self.check(dict(plan, book=book[:3]), [("a", "read", "f", "b"), ("d", "read", "f", "b")], None)

    def test_other_uses_stay(self):
        plan = plan_of([c("a"), c("b"), c("e", package="q")], [m("a", "f", "private", write="package")],
                       [use("b", "write", "f", "a"), use("e", "read", "f", "a")])
        told = self.check(plan, [("b", "read", "f", "a")], 1)
        self.assertEqual(list(told), [("a", "f", "read")])


class Searches(Openings):
    def wishes(self, source, plain, most):
        ways = {"field": ("read", "write"), "method": ("call",), "static": ("call",)}
        possible = [
            (place, way, name, target)
            for place in plain.bases for target in plain.bases for name in {name for _, name, _ in plain.declared}
            if plain.has(target, name) for way in ways[plain.kind(name)]
        ]
        possible.sort()
        return [source.choice(possible) for _ in range(source.randint(1, most))] if possible else []

    def test_by_chance(self):
        source = random.Random(29)
        chance = Chance(source, packages=3, classes=4, members=5, uses=3, levels=4)
        counts = {}
        for _ in range(250):
            plan = chance.plan()
            plain = Plain(plan)
            wishes = self.wishes(source, plain, 4)
            count = fewest(plain, wishes)
            self.check(plan, wishes, count)
            counts[count] = counts.get(count, 0) + 1
        self.assertTrue({None, 0, 1, 2} <= set(counts), counts)

    def test_chains_of_declarations(self):
        """Methods that are declared again and again, so that opening one mark asks for others."""
        source = random.Random(30)
        counts = {}
        for _ in range(60):
            book = [("low", source.choice(("own", "nested", "package"))), ("mid", source.choice(("package", "heir"))),
                    ("across", source.choice(("below|package", "below", "around"))), ("top", "any")]
            book = book[:source.choice((3, 4, 4))]
            levels = [level for level, _ in book]
            bases = {"a": "", "b": "a", "d": source.choice("ab"), "e": source.choice("ab")}
            classes = [c(name, its, source.choice("pq"), maker="low") for name, its in bases.items()]
            members = [m(name, "k", source.choice(levels[:1] * 2 + levels)) for name in bases]
            plan = plan_of(classes, members, book=book)
            plain = Plain(plan)
            wishes = [(source.choice("abde"), "call", "k", source.choice("abde")) for _ in range(source.choice((1, 2, 3)))]
            count = fewest(plain, wishes)
            self.check(plan, wishes, count)
            counts[count] = counts.get(count, 0) + 1
        self.assertTrue({None, 0, 1, 2, 3} <= set(counts), counts)


if __name__ == "__main__":
    unittest.main()
