"""Point 20: moves, and which of them are safe."""

import random
import unittest

from tests.making import Chance, c, house_of, m, plan_of, row, use
from tests.plain import Plain
from tests.searching import shortest_break
from tests.support import seen_of_house
from whomayname.parting import first_break, safe_moves

SEALED = (("p", True), ("q", True))


def moves_of(plan):
    """All moves: of the classes that lie directly in a package, into each other package."""
    return [(name, other) for name, package, inside, *_ in plan["classes"] if inside is None
            for other, _ in plan["packages"] if other != package]


def moved(plan, move):
    """The plan after a move."""
    classes = [(name, move[1] if name == move[0] else package, *rest) for name, package, *rest in plan["classes"]]
    return dict(plan, classes=classes)


class Moves(unittest.TestCase):
    def check(self, plan, *safe):
        house = house_of(plan)
        before = seen_of_house(house)
        told = safe_moves(house)
        self.assertIs(type(told), list)
        self.assertEqual(sorted(told), sorted(safe))
        self.assertEqual(seen_of_house(house), before)
        told.clear()
        self.assertEqual(sorted(safe_moves(house)), sorted(safe))


class ByHand(Moves):
    def test_nothing_to_move(self):
        self.check(plan_of())
        self.check(plan_of(packages=[]))
        self.check(plan_of([c("a"), c("b", inside="a")], packages=[("p", False)]))

    def test_no_level_asks_for_packages(self):
        plan = plan_of([c("a"), c("b", "a", package="q"), c("d", inside="a")], [m("a", "f", write="private")])
        self.check(plan, ("a", "q"), ("b", "p"))

    def test_each_other_package(self):
        plan = plan_of([c("a")], packages=[(name, name == "r") for name in "pqrs"])
        self.check(plan, ("a", "q"), ("a", "r"), ("a", "s"))

    def test_nested_classes_do_not_move_alone(self):
        plan = plan_of([c("a"), c("b", inside="a"), c("d", inside="b")])
        self.check(plan, ("a", "q"))

    def test_a_program_is_lost(self):
        for members, maker in (([m("a", "f", "package")], "public"), ([], "package"), ([m("a", "s", "protected")], "public")):
            plan = plan_of([c("a", maker=maker)], members)
            self.check(plan)
            self.assertIsNotNone(first_break(house_of(plan), house_of(plan).moved("a", "q")))
            # No later code is in a sealed package.
            self.check(dict(plan, packages=SEALED), ("a", "q"))
            self.check(dict(plan, packages=[("p", True), ("q", False)]), ("a", "q"))
            self.check(dict(plan, packages=[("p", False), ("q", True)]))

    def test_a_program_about_a_class_inside_is_lost(self):
        plan = plan_of([c("a"), c("b", inside="a", maker="package")])
        self.check(plan)
        self.check(dict(plan, packages=SEALED), ("a", "q"))

    def test_a_use_is_lost(self):
        classes = [c("a"), c("b"), c("d", package="q")]
        plan = plan_of(classes, [m("a", "f", "package")], [use("b", "read", "f", "a")], packages=SEALED)
        self.check(plan, ("d", "p"))
        # A use that was not let before may stay so.
        plan = plan_of(classes, [m("a", "f", "package")], [use("d", "read", "f", "a")], packages=SEALED)
        self.check(plan, ("a", "q"), ("b", "q"), ("d", "p"))

    def test_a_base_is_lost(self):
        plan = plan_of([c("a", maker="package"), c("b", "a"), c("d", "a", package="q")], packages=SEALED)
        self.check(plan, ("d", "p"))

    def test_a_body_is_lost(self):
        plan = plan_of([c("a"), c("b", "a")], [m("a", "k", "package"), m("b", "k", "package")], packages=SEALED)
        self.check(plan)
        plan = plan_of([c("a"), c("b", "a")], [m("a", "k", "protected"), m("b", "k", "protected")], packages=SEALED)
        self.check(plan, ("a", "q"), ("b", "q"))

    def test_with_the_classes_inside(self):
        """Two classes that name each other stay together if one lies in the other."""
        uses = [use("b", "read", "f", "a"), use("a", "read", "f2", "b")]
        members = [m("a", "f", "package"), m("b", "f2", "package")]
        self.check(plan_of([c("a"), c("b", inside="a")], members, uses, packages=SEALED), ("a", "q"))
        self.check(plan_of([c("a"), c("b")], members, uses, packages=SEALED))

    def test_a_use_by_a_class_inside_is_lost(self):
        plan = plan_of([c("a"), c("b"), c("d", inside="b")], [m("a", "f", "package")], [use("d", "write", "f", "a")],
                       packages=SEALED)
        self.check(plan)

    def test_moved_and_back(self):
        plan = plan_of([c("a", maker="package"), c("b", inside="a")], [m("b", "f", "package")])
        house = house_of(plan)
        there = house.moved("a", "q")
        back = there.moved("a", "p")
        self.assertIsNotNone(first_break(house, there))
        self.assertIsNone(first_break(house, back))
        self.assertEqual(seen_of_house(back), seen_of_house(house))
        self.assertIs(there.accepts([row("x", "a", "q")]), True)
        self.assertIs(there.accepts([row("x", "a", "p")]), False)


class Searches(Moves):
    def test_all_moves_of_small_houses(self):
        chance = Chance(random.Random(23), packages=3, classes=3, members=3, uses=4, levels=3)
        counts = {True: 0, False: 0}
        for _ in range(120):
            plan = chance.plan()
            house, plain = house_of(plan), Plain(plan)
            let = {use for use, its_let in plain.present().items() if its_let}
            told = safe_moves(house)
            self.assertEqual(len(told), len(set(told)))
            self.assertTrue(set(told) <= set(moves_of(plan)), plan)
            for move in moves_of(plan):
                other = Plain(moved(plan, move))
                lost = {use for use, its_let in other.present().items() if not its_let} & let
                counts[move in told] += 1
                if move in told:
                    self.assertFalse(lost, (plan, move))
                    self.assertIsNone(shortest_break(plain, other, 2, 1), (plan, move))
                elif not lost:
                    rows = first_break(house, house.moved(*move))
                    self.assertIsNone(plain.refusal(rows))
                    self.assertIsNotNone(other.refusal(rows))
        self.assertGreater(min(counts.values()), 30)

    def test_larger_houses(self):
        chance = Chance(random.Random(24))
        for _ in range(20):
            plan = chance.plan()
            house = house_of(plan)
            before = set(house.broken())
            for move in moves_of(plan):
                after = house.moved(*move)
                is_safe = set(after.broken()) <= before and first_break(house, after) is None
                self.assertIs(move in safe_moves(house), is_safe, (plan, move))


if __name__ == "__main__":
    unittest.main()
