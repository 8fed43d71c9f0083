"""Points 11 and 16: the events of runs. And programs by chance, against a plain reading."""

import random
import unittest

from tests.making import Chance, act, c, house_of, m, plan_of, row, use
from tests.plain import Plain
from tests.support import Refusals
from whomayname.errors import AccessError, Barred


class Runs(unittest.TestCase, Refusals):
    def check(self, plan, rows, *events):
        told = house_of(plan).run(rows)
        self.assertIs(type(told), list)
        self.assertEqual(sorted(told, key=str), sorted(events, key=str))
        self.assertEqual(Plain(plan).run(rows), set(events))


class Acts(Runs):
    """The event of each act itself."""

    plan = plan_of(
        [c("a"), c("b", "a"), c("d", "b"), c("e", package="q")],
        [m("a", "f"), m("a", "k"), m("b", "k"), m("a", "s"), m("b", "j"), m("e", "se")],
    )

    def test_no_acts(self):
        self.check(self.plan, [])
        self.check(self.plan, [row("x", "a"), row("y", "x")])

    def test_fields_go_to_the_root(self):
        self.check(
            self.plan, [row("x", "d"), act("x", "read", "f", "a", "d"), act("x", "write", "f", "x", "x")],
            ("read", "a", "f", "d"), ("write", "a", "f", "x"),
        )

    def test_methods_go_to_the_declaration_of_the_target(self):
        self.check(
            self.plan,
            [row("x", "d"), act("x", "call", "k", "a", "a"), act("x", "call", "k", "a", "d"),
             act("x", "call", "k", "a", "x"), act("x", "call", "j", "d", "d")],
            ("call", "a", "k", "a"), ("call", "b", "k", "d"), ("call", "b", "k", "x"), ("call", "b", "j", "d"),
        )

    def test_statics_and_makers(self):
        self.check(
            self.plan,
            [row("x", "d"), act("x", "call", "s", "x", None), act("x", "call", "s", "b", None),
             act("x", "make", "new", "e", None), act("x", "make", "new", "d", None)],
            ("call", "a", "s", None), ("make", "e", "new", None), ("make", "d", "new", None),
        )

    def test_elder_calls(self):
        self.check(
            self.plan,
            [row("x", "d"), row("y", "x"), act("x", "elder", "k", "d", "x"), act("x", "elder", "k", "d", "y"),
             act("y", "elder", "k", "x", "y")],
            ("call", "b", "k", "x"), ("call", "b", "k", "y"),
        )
        self.check(self.plan, [row("x", "a"), act("x", "elder", "k", "a", "x")], ("call", "a", "k", "x"))

    def test_elder_past_later_bodies(self):
        """The declaration is that of through, whatever the target has."""
        body = [("k", "public")]
        self.check(
            self.plan,
            [row("x", "d", bodies=body), row("y", "x", bodies=body), act("x", "elder", "k", "d", "y"),
             act("y", "elder", "k", "x", "y")],
            ("call", "b", "k", "y"),
        )

    def test_no_event_for_later_owners(self):
        body = [("k", "public")]
        self.check(
            self.plan,
            [row("x", "d", bodies=body), row("y", "x"), act("x", "make", "new", "x", None),
             act("x", "call", "k", "a", "x"), act("x", "call", "k", "a", "y"), act("x", "call", "k", "x", "y"),
             act("y", "call", "j", "y", "y")],
            ("call", "b", "j", "y"),
        )

    def test_no_duplicates(self):
        acts = [act("x", "read", "f", "a", "d"), act("x", "read", "f", "b", "d"), act("y", "read", "f", "d", "d")]
        self.check(self.plan, [row("x"), row("y")] + acts + acts, ("read", "a", "f", "d"))

    def test_errors_as_check(self):
        house = house_of(dict(self.plan, book=[("public", "package")]))
        rows = [row("x"), act("x", "make", "new", "a", None), act("x", "make", "new", "e", None)]
        with self.assertRaises(Barred) as caught:
            house.run(rows)
        self.assertEqual((caught.exception.row, caught.exception.what), (2, ("e", "new", "make")))


class Bodies(Runs):
    """What the uses in bodies bring."""

    classes = [c("a"), c("b", "a"), c("d", "b"), c("e", package="q")]
    members = [m("a", "f"), m("a", "k"), m("b", "k"), m("a", "j"), m("a", "s"), m("e", "se"), m("d", "i")]

    def run_of(self, uses, rows, *events, book=None, members=None):
        plan = plan_of(self.classes, self.members if members is None else members, uses)
        self.check(plan if book is None else dict(plan, book=book), rows, *events)

    def test_each_way_on_the_same_target(self):
        uses = [
            use("a", "read", "f", "a", "j"), use("a", "write", "f", "a", "j"), use("a", "call", "k", "a", "j"),
            use("a", "call", "s", "d", "j"), use("a", "make", "new", "e", "j"),
        ]
        always = [("call", "a", "s", None), ("make", "e", "new", None)]
        for target, owner in (("a", "a"), ("b", "b"), ("d", "b"), ("x", "b")):
            self.run_of(
                uses, [row("x", "d"), act("x", "call", "j", "a", target)], *always,
                ("call", "a", "j", target), ("read", "a", "f", target), ("write", "a", "f", target),
                ("call", owner, "k", target),
            )

    def test_elder_calls_in_bodies(self):
        uses = [use("b", "elder", "k", "a", "k"), use("a", "write", "f", "a", "k"), use("d", "elder", "k", "b", "i"),
                use("d", "elder", "j", "b", "i")]
        self.run_of(uses, [row("x"), act("x", "call", "k", "a", "d")],
                    ("call", "b", "k", "d"), ("call", "a", "k", "d"), ("write", "a", "f", "d"))
        self.run_of(uses, [row("x", "d"), act("x", "call", "i", "x", "x")],
                    ("call", "d", "i", "x"), ("call", "a", "j", "x"), ("call", "b", "k", "x"), ("call", "a", "k", "x"),
                    ("write", "a", "f", "x"))

    def test_bodies_of_the_declaration_that_runs_only(self):
        uses = [use("a", "read", "f", "a", "k"), use("b", "write", "f", "b", "k")]
        self.run_of(uses, [row("x"), act("x", "call", "k", "a", "a")], ("call", "a", "k", "a"), ("read", "a", "f", "a"))
        self.run_of(uses, [row("x"), act("x", "call", "k", "a", "d")], ("call", "b", "k", "d"),
                    ("write", "a", "f", "d"))
        self.run_of(uses, [row("x", "d"), act("x", "elder", "k", "d", "x")], ("call", "b", "k", "x"),
                    ("write", "a", "f", "x"))

    def test_uses_outside_of_bodies_do_not_happen(self):
        uses = [use("a", "read", "f", "a"), use("a", "write", "f", "a", "j"), use("a", "make", "new", "e", "s")]
        self.run_of(uses, [row("x"), act("x", "call", "k", "a", "a"), act("x", "read", "f", "a", "a")],
                    ("call", "a", "k", "a"), ("read", "a", "f", "a"))

    def test_only_calls_run_bodies(self):
        uses = [use("a", "make", "new", "e", "j")]
        self.run_of(uses, [row("x"), act("x", "make", "new", "a", None), act("x", "write", "f", "a", "b")],
                    ("make", "a", "new", None), ("write", "a", "f", "b"))

    def test_statics_have_no_object(self):
        uses = [use("a", "call", "se", "e", "s"), use("a", "make", "new", "d", "s"), use("e", "call", "s", "b", "se")]
        events = [("call", "a", "s", None), ("call", "e", "se", None), ("make", "d", "new", None)]
        self.run_of(uses, [row("x", "b"), act("x", "call", "s", "x", None)], *events)
        self.run_of(uses, [row("x"), act("x", "call", "se", "e", None)], *events)

    def test_one_after_another(self):
        uses = [use("a", "call", "j", "a", "k"), use("a", "call", "s", "a", "j"), use("a", "call", "se", "e", "s"),
                use("e", "make", "new", "b", "se")]
        self.run_of(uses, [row("x"), act("x", "call", "k", "a", "a")],
                    ("call", "a", "k", "a"), ("call", "a", "j", "a"), ("call", "a", "s", None),
                    ("call", "e", "se", None), ("make", "b", "new", None))

    def test_in_circles(self):
        uses = [use("a", "call", "j", "a", "k"), use("a", "call", "k", "a", "j"), use("b", "elder", "k", "a", "k"),
                use("a", "call", "s", "a", "s"), use("a", "call", "s", "a", "j")]
        self.run_of(uses, [row("x"), act("x", "call", "j", "a", "b")],
                    ("call", "a", "j", "b"), ("call", "b", "k", "b"), ("call", "a", "k", "b"), ("call", "a", "s", None))
        self.run_of(uses, [row("x", "b"), act("x", "elder", "k", "b", "x")],
                    ("call", "b", "k", "x"), ("call", "a", "k", "x"), ("call", "a", "j", "x"), ("call", "a", "s", None))

    def test_let_or_not(self):
        book = [("public", "package"), ("private", "-")]
        members = [m("a", "f", "private"), m("a", "k"), m("e", "se", "private")]
        uses = [use("a", "read", "f", "a", "k"), use("a", "call", "se", "e", "k"), use("e", "make", "new", "b", "se")]
        self.run_of(uses, [row("x"), act("x", "call", "k", "a", "b")], ("call", "a", "k", "b"),
                    ("read", "a", "f", "b"), ("call", "e", "se", None), ("make", "b", "new", None),
                    book=book, members=members)

    def test_later_body_takes_the_place_of_a_given_one(self):
        uses = [use("a", "call", "k", "a", "j"), use("a", "read", "f", "a", "k"), use("b", "write", "f", "b", "k"),
                use("b", "elder", "j", "a", "k")]
        body = [("k", "public")]
        x, plain_x = row("x", "b", bodies=body), row("x", "b")
        self.run_of(uses, [x, act("x", "call", "j", "a", "x")], ("call", "a", "j", "x"))
        self.run_of(uses, [plain_x, act("x", "call", "j", "a", "x")],
                    ("call", "a", "j", "x"), ("call", "b", "k", "x"), ("write", "a", "f", "x"))
        self.run_of(uses, [x, row("y", "x"), act("y", "call", "j", "y", "y")], ("call", "a", "j", "y"))
        self.run_of(uses, [x, act("x", "call", "j", "a", "b")],
                    ("call", "a", "j", "b"), ("call", "b", "k", "b"), ("write", "a", "f", "b"))
        # An elder call still reaches the given body, in which j is called and leads back to the later one.
        self.run_of(uses, [x, act("x", "elder", "k", "b", "x")],
                    ("call", "b", "k", "x"), ("call", "a", "j", "x"), ("write", "a", "f", "x"))

    def test_later_body_of_the_called_method_between(self):
        uses = [use("a", "call", "j", "a", "k"), use("a", "make", "new", "e", "j")]
        rows = [row("x", "a", bodies=[("j", "public")]), row("y", "x"), act("y", "call", "k", "y", "y")]
        self.run_of(uses, rows, ("call", "a", "k", "y"))

    def test_declared_again_below(self):
        classes = [c("a"), c("b", "a"), c("d", "b"), c("e", "d")]
        members = [m("a", "k"), m("d", "k"), m("b", "k"), m("a", "j")]
        uses = [use("a", "call", "k", "a", "j"), use("a", "make", "new", "a", "k"), use("b", "make", "new", "b", "k"),
                use("d", "elder", "k", "b", "k"), use("b", "elder", "k", "a", "k")]
        a, b, d = (("make", name, "new", None) for name in "abd")
        plan = plan_of(classes, members, uses)
        self.check(plan, [row("x"), act("x", "call", "j", "a", "e")], ("call", "a", "j", "e"), ("call", "d", "k", "e"),
                   ("call", "b", "k", "e"), ("call", "a", "k", "e"), a, b)
        self.check(plan, [row("x", "b"), act("x", "call", "j", "b", "x")], ("call", "a", "j", "x"),
                   ("call", "b", "k", "x"), ("call", "a", "k", "x"), a, b)
        self.assertNotIn(d, house_of(plan).run([row("x"), act("x", "call", "j", "a", "e")]))

    def test_declaration_added_after_the_use(self):
        library = house_of(plan_of(self.classes, self.members, [use("a", "call", "k", "a", "j")])).library()
        library.add_member("d", "k", kind="method", level="public")
        house = house_of(plan_of())
        made = type(house)(library, house.book)
        self.assertEqual(sorted(made.run([row("x"), act("x", "call", "j", "a", "d")])),
                         [("call", "a", "j", "d"), ("call", "d", "k", "d")])


class ByChance(unittest.TestCase):
    def told(self, house, rows):
        try:
            house.check(rows)
        except AccessError as error:
            return type(error).__name__, error.row, error.what, getattr(error, "why", None)
        return None

    def test_errors_and_events_against_a_plain_reading(self):
        chance = Chance(random.Random(41))
        errors, sizes = {}, {}
        for _ in range(250):
            plan = chance.plan()
            house, plain = house_of(plan), Plain(plan)
            for _ in range(12):
                rows = chance.program(plan)
                told = self.told(house, rows)
                self.assertEqual(told, plain.refusal(rows), (plan, rows))
                errors[told and told[0]] = True
                while told is not None:
                    # Without the refused row, the next one has its turn.
                    rows = rows[:told[1]] + rows[told[1] + 1:]
                    told = self.told(house, rows)
                    self.assertEqual(told, plain.refusal(rows), (plan, rows))
                    errors[told and told[0]] = True
                for count in range(len(rows) + 1):
                    self.assertIs(house.accepts(rows[:count]), True)
                events = house.run(rows)
                self.assertEqual(len(events), len(set(events)))
                self.assertEqual(set(events), plain.run(rows), (plan, rows))
                sizes[len(events)] = True
        self.assertEqual(set(errors), {None, "Taken", "Unknown", "Sealed", "Joined", "Barred", "Misfit", "Narrow"})
        self.assertGreater(max(sizes), 5)


if __name__ == "__main__":
    unittest.main()
