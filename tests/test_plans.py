"""Section 8, its first part: plans."""

import inspect
import itertools
import unittest

from tapedonce.errors import BadPlan
from tapedonce.judging import right, shows_right, story_told
from tapedonce.keeping import first_state, kept, run_tape
from tapedonce.plans import Plan
from tapedonce.tapes import Tape
from tapedonce.taping import taped
from tapedonce.worlds import Setup, World
from tests.making import Refusing
from tests.values import any_values

SIX = ("a", "b", "c", "d", "e", "f")
NO_NAMES = ("", "abcdefghi", "A", "a1", "a b", "\u00e4", 1, None, True, b"a", ("a",), ["a"], {})

NO_GUARDS = [
    None, 0, True, "", "a", "ab", b"a", [], ["a"], {}, {"a": 0}, ("b", "a"), ("a", "a"), ("a", "c", "b"),
    SIX + ("g",), ("a", None), ("a", "B"),
] + [(name,) for name in NO_NAMES]

NO_OWN = [value for value in NO_GUARDS if value != SIX + ("g",)] + [("a", "b", "c", "d"), SIX]


class Making(unittest.TestCase, Refusing):

    def check(self, plan, guards, known, held, own):
        self.assertEqual((plan.guards, plan.known, plan.held, plan.own), (guards, known, held, own))
        self.assertIs(plan.known, known)
        self.assertIs(plan.held, held)

    def test_what_is_left_out(self):
        self.check(Plan(), (), False, True, ())
        self.check(Plan(("g",)), ("g",), False, True, ())
        self.check(Plan(guards=("g",)), ("g",), False, True, ())
        self.check(Plan(known=True), (), True, True, ())
        self.check(Plan(held=False), (), False, False, ())
        self.check(Plan(own=("w",)), (), False, True, ("w",))

    def test_all_parts(self):
        for many, known, held, owned in itertools.product(range(7), (False, True), (False, True), range(4)):
            guards, own = SIX[:many], ("abcdefgh", "b", "z")[:owned]
            self.check(Plan(guards, known=known, held=held, own=own), guards, known, held, own)
            self.check(Plan(own=own, held=held, known=known, guards=guards), guards, known, held, own)

    def test_guards_alone_stand_by_position(self):
        with self.assertRaises(TypeError):
            Plan((), True)

    def bad(self, guards, known, held, own):
        self.raises(BadPlan, "value", (guards, known, held, own), Plan, guards, known=known, held=held, own=own)

    def test_wrong_parts(self):
        for value in NO_GUARDS:
            self.bad(value, False, True, ())
            self.raises(BadPlan, "value", (value, False, True, ()), Plan, value)
        for value in NO_OWN:
            self.bad((), True, False, value)
            self.raises(BadPlan, "value", ((), False, True, value), Plan, own=value)
        for value in any_values():
            if value is not True and value is not False:
                self.bad((), value, True, ())
                self.bad((), True, value, ("a",))

    def test_all_values_are_kept_as_they_are(self):
        for value in any_values():
            if value == ():
                continue
            for at in range(4):
                parts = [(), False, True, ()]
                parts[at] = value
                if at in (1, 2) and isinstance(value, bool):
                    continue
                with self.assertRaises(BadPlan) as told:
                    Plan(parts[0], known=parts[1], held=parts[2], own=parts[3])
                self.assertIs(told.exception.value.__class__, tuple)
                for found, part in zip(told.exception.value, parts, strict=True):
                    self.assertIs(found, part)

    def test_equal_by_all_four(self):
        base = {"guards": ("a",), "known": False, "held": True, "own": ("w",)}
        self.assertTrue(Plan(**base) == Plan(**base))
        self.assertFalse(Plan(**base) != Plan(**base))
        for name, others in {"guards": [(), ("b",), ("a", "b")], "known": [True], "held": [False], "own": [(), ("v",)]}.items():
            for other in others:
                self.assertFalse(Plan(**base) == Plan(**{**base, name: other}))
                self.assertTrue(Plan(**base) != Plan(**{**base, name: other}))

    def test_equal_nothing_else(self):
        for other in any_values() + [((), False, True, ()), World(2, 1, (), ())]:
            self.assertFalse(Plan() == other)
            self.assertFalse(other == Plan())
            self.assertTrue(Plan() != other)

    def test_the_class_is_as_listed(self):
        self.assertEqual(Plan.__module__, "tapedonce.plans")
        self.assertEqual([*inspect.signature(Plan).parameters], ["guards", "known", "held", "own"])
        self.assertEqual([*inspect.signature(Plan.with_guard).parameters], ["self", "name"])
        self.assertEqual([*inspect.signature(Plan.without).parameters], ["self", "name"])
        for name in ("guards", "known", "held", "own", "with_guard", "without", "__eq__"):
            self.assertIn(name, vars(Plan))


class Guards(unittest.TestCase, Refusing):
    """One guard more, one fewer."""

    def test_with_each_guard(self):
        for many in range(6):
            for guards in itertools.combinations(SIX, many):
                for name in SIX + ("aa", "zzzzzzzz"):
                    plan = Plan(guards, known=True, held=False, own=("w",))
                    if name in guards:
                        self.refused(BadPlan, name, plan.with_guard, name)
                    else:
                        more = Plan(tuple(sorted(guards + (name,))), known=True, held=False, own=("w",))
                        self.assertEqual(plan.with_guard(name), more)
                        self.assertEqual(plan.with_guard(name=name), more)
                    self.assertEqual(plan, Plan(guards, known=True, held=False, own=("w",)))

    def test_without_each_guard(self):
        for many in range(7):
            for guards in itertools.combinations(SIX, many):
                for name in SIX + ("aa",):
                    plan = Plan(guards, known=True, own=("v", "w"))
                    if name not in guards:
                        self.refused(BadPlan, name, plan.without, name)
                    else:
                        fewer = Plan(tuple(one for one in guards if one != name), known=True, own=("v", "w"))
                        self.assertEqual(plan.without(name), fewer)
                        self.assertEqual(plan.without(name=name), fewer)
                    self.assertEqual(plan, Plan(guards, known=True, own=("v", "w")))

    def test_a_seventh_guard(self):
        plan = Plan(SIX)
        for name in ("g", "aa", "a"):
            self.refused(BadPlan, name, plan.with_guard, name)
        self.assertEqual(plan, Plan(SIX))

    def test_what_is_no_name(self):
        for plan in (Plan(), Plan(("a",)), Plan(SIX)):
            for value in list(NO_NAMES) + [value for value in any_values() if value not in ("a", "abcdefgh")]:
                self.refused(BadPlan, value, plan.with_guard, value)
                self.refused(BadPlan, value, plan.without, value)

    def test_others_stay_as_they_are(self):
        plan = Plan(("b",), held=False)
        self.assertEqual(plan.with_guard("a").without("b"), Plan(("a",), held=False))
        self.assertEqual(plan.with_guard("c").known, False)
        self.assertEqual(plan.with_guard("c").held, False)


class Fitting(unittest.TestCase, Refusing):
    """A plan fits a setup if each name in own is a work of it."""

    def test_own_works_that_there_are_not(self):
        world = World(2, 1, (("c", 0),), ())
        setup = Setup(world, (("v", lambda hand: 0, ""), ("w", lambda hand: 0, "")), 1)
        tape = Tape(world, "", (), ("gives", ("known", 0)))
        deed, state = ("call", "v", ()), first_state(setup)
        for own in (("c",), ("v", "x"), ("a", "v", "w"), ("vw",)):
            plan = Plan(own=own)
            self.refused(BadPlan, plan, taped, setup, plan, None, None, None)
            self.refused(BadPlan, plan, kept, setup, plan, None, None)
            self.refused(BadPlan, plan, run_tape, setup, plan, None, tape, None)
            self.refused(BadPlan, plan, right, setup, plan)
            self.refused(BadPlan, plan, shows_right, setup, plan, None)
            self.refused(BadPlan, plan, story_told, setup, plan, None)
            self.refused(BadPlan, plan, kept, setup=setup, plan=plan, state=state, deed=deed)
        for own in ((), ("v",), ("w",), ("v", "w")):
            self.assertEqual(kept(setup, Plan(own=own), state, deed)[0], ("gives", 0))
            self.assertEqual(taped(setup, Plan(own=own), world.first, "v", ())[0], ("gives", 0))
            self.assertEqual(run_tape(setup, Plan(own=own), state, tape, ())[0], ("gives", 0))
            self.assertEqual(right(setup, Plan(own=own))[0], "right")

    def test_a_guard_need_not_be_there(self):
        setup = Setup(World(2, 1, (), ()), (("w", lambda hand: 0, ""),), 1)
        self.assertEqual(right(setup, Plan(("nowhere",)))[0], "right")


if __name__ == "__main__":
    unittest.main()
