"""Section 10: runs of tapes, by run_tape and by calls of tapes."""

import itertools
import unittest

from tapedonce.keeping import first_state, run_tape
from tapedonce.plans import Plan
from tapedonce.tapes import Tape
from tapedonce.worlds import Setup, World
from tests.reckoning import Field, by_tape
from tests.scripts import GUARDS, Maker, work_of
from tests.tapemaker import TapeMaker

ZERO, ONE, TWO, THREE = ("known", 0), ("known", 1), ("known", 2), ("known", 3)
X, Y = ("arg", 0), ("arg", 1)
P, Q = ("row", "p"), ("row", "q")
TRUE, FALSE = ("true",), ("false",)
HELD, LOOSE = Plan(), Plan(held=False)

# c is 1, d is 0, p has 1 and 2, q has nothing.
WORLD = World(4, 2, (("c", 1), ("d", 0)), (("p", (1, 2)), ("q", ())))


def more(hand, x):
    """Puts c + x into c and tells d; fails with x where this is 0."""
    hand.put("c", hand.cell("c") + x)
    if x == 0:
        hand.put("d", 3)
        return hand.tried(lambda: hand.fail("cause"), lambda word: hand.fail("no"))
    return hand.cell("c")


def push(hand, row, x):
    row += x
    return row[0]


def itself(hand):
    return hand.call("itself")


SETUP = Setup(WORLD, (("itself", itself, ""), ("more", more, "n"), ("push", push, "rn")), 2)


class Running(unittest.TestCase):

    def run_of(self, steps, end, kinds="", values=(), plan=HELD, stand=None):
        """(told, stand, how many tapes each keeper has)."""
        state = (stand or WORLD.first, ((), (), ()))
        told, after = run_tape(SETUP, plan, state, Tape(WORLD, kinds, tuple(steps), end), values)
        return told, after[0], tuple(len(texts) for texts in after[1])

    def gives(self, steps, node, worth, kinds="", values=()):
        """A tape that comes to its end, held or not."""
        for plan in (HELD, LOOSE):
            self.assertEqual(self.run_of(steps, ("gives", node), kinds, values, plan)[0], ("gives", worth))

    def off(self, steps, kinds="", values=(), end=("gives", ZERO), left=None):
        """A tape that is off: held it leaves nothing, otherwise what left tells."""
        put = (("put", "d", TWO),)
        self.assertEqual(self.run_of(put + tuple(steps), end, kinds, values), (None, WORLD.first, (0, 0, 0)))
        told, stand, _ = self.run_of(put + tuple(steps), end, kinds, values, LOOSE)
        self.assertEqual((told, stand), (None, left or ((1, 2), ((1, 2), ()))))


class Working(Running):
    """What nodes and conditions come to."""

    def test_nodes(self):
        for worth in range(4):
            self.gives((), ("known", worth), worth)
            self.gives((), X, worth, "n", (worth,))
            self.gives((), Y, worth, "rn", ("p", worth))
            self.gives((), ("minus", X), -worth % 4, "n", (worth,))
        self.gives((), ("cell", "c", 0), 1)
        self.gives((), ("cell", "d", 0), 0)
        self.gives((), ("item", P, ONE, 0), 2)
        self.gives((), ("item", X, Y, 0), 1, "rn", ("p", 0))
        for one, other in itertools.product(range(4), repeat=2):
            for sign, worth in (("+", one + other), ("-", one - other), ("*", one * other), ("//", other and one // other)):
                if sign != "//" or other:
                    self.gives((), ("do", sign, X, Y), worth % 4, "nn", (one, other))

    def test_conditions(self):
        def check(condition, truth, kinds="", values=()):
            self.gives((("guard", condition, truth),), ZERO, 0, kinds, values)
            self.off((("guard", condition, not truth),), kinds, values)

        check(TRUE, True)
        check(FALSE, False)
        for one, other in itertools.product(range(4), repeat=2):
            check(("equal", X, Y), one == other, "nn", (one, other))
            check(("less", X, Y), one < other, "nn", (one, other))
        for i, name in itertools.product(range(4), "pq"):
            check(("has", Y, X, 0), i < 2 and name == "p", "nr", (i, name))
        for one, two in itertools.product("pq", repeat=2):
            check(("same", X, Y), one == two, "rr", (one, two))
            check(("same", X, P), one == "p", "rr", (one, two))
            check(("same", Q, Y), two == "q", "rr", (one, two))
        check(("same", P, P), True)
        for one, two in itertools.product((TRUE, FALSE), repeat=2):
            check(("and", one, two), one == two == TRUE)
            check(("or", one, two), TRUE in (one, two))
            check(("unlike", one, two), one != two)

    def test_both_conditions_are_worked_out(self):
        fault = ("equal", ("do", "//", ONE, ZERO), ONE)
        for word, first in itertools.product(("and", "or", "unlike"), (TRUE, FALSE)):
            for truth in (True, False):
                self.off((("guard", (word, first, fault), truth),))
                self.off((("guard", (word, fault, first), truth),))

    def test_times(self):
        steps = (("put", "c", TWO), ("set", P, ZERO, THREE), ("push", Q, ONE), ("call", "more", (ONE,)), ("put", "c", ZERO))
        for time, worth in enumerate((1, 2, 2, 2, 3, 0)):
            self.gives(steps, ("cell", "c", time), worth)
        for time, worth in enumerate((1, 1, 3, 3, 3, 3)):
            self.gives(steps, ("item", P, ZERO, time), worth)
        for time, truth in enumerate((False, False, False, True, True, True)):
            self.gives(steps + (("guard", ("has", Q, ZERO, time), truth),), ZERO, 0)
        for time in range(3):
            self.off(steps, end=("gives", ("item", Q, ZERO, time)), left=((0, 2), ((3, 2), (1,))))
        self.gives(steps, ("item", Q, ZERO, 3), 1)
        steps = (("put", "c", ("cell", "c", 0)), ("put", "d", ("do", "+", ("cell", "c", 0), ("cell", "c", 1))))
        self.assertEqual(self.run_of(steps, ("gives", ZERO))[1], ((1, 2), ((1, 2), ())))

    def test_times_of_places_and_rooms(self):
        steps = (("push", Q, ONE), ("push", Q, TWO))
        for time in range(3):
            # What is to be off has one write more ahead of it.
            for step, right in ((("fails", ("place", Q, ZERO, time), "index"), time == 0), (("fails", ("room", Q, time), "full"), time == 2)):
                if right:
                    self.gives(steps + (step,), ZERO, 0)
                else:
                    later = ("fails", step[1][:-1] + (time + 1,), step[2])
                    self.off(steps + (later,), left=((1, 2), ((1, 2), (1, 2))))
        self.off((("push", Q, ONE), ("fails", ("room", P, 1), "index")), left=((1, 2), ((1, 2), (1,))))

    def test_rows_are_those_that_are_handed_in(self):
        steps = (("push", X, ONE), ("push", Y, TWO), ("set", X, ZERO, THREE))
        for values, left in ((("q", "q"), ((1, 2), (3, 2))),):
            self.assertEqual(self.run_of(steps, ("gives", ZERO), "rr", values), (("gives", 0), ((1, 0), left), (0, 0, 0)))
        self.off(steps, "rr", ("q", "p"), left=((1, 2), ((1, 2), (1,))))
        self.off(steps, "rr", ("p", "q"))

    def test_ends(self):
        for words in (("a",), ("a", "b"), ("zero", "no", "c")):
            for plan in (HELD, LOOSE):
                found = self.run_of((("put", "c", THREE),), ("faults", words), plan=plan)
                self.assertEqual(found, (("faults", words), ((3, 0), ((1, 2), ())), (0, 0, 0)))


class Off(Running):
    """Each reason to be off."""

    def faulting(self):
        """Nodes that come with a fault."""
        return [
            ("do", "//", ONE, ZERO), ("do", "+", ONE, ("do", "//", ZERO, ZERO)), ("minus", ("do", "//", ONE, ZERO)),
            ("item", Q, ZERO, 0), ("item", P, TWO, 0), ("item", P, ("item", Q, ZERO, 0), 0), ("do", "*", ("item", P, THREE, 1), ZERO),
        ]

    def test_faults_in_working_out(self):
        for node in self.faulting():
            self.off((("fine", node),))
            self.off((("put", "c", node),))
            self.off((("set", P, ZERO, node),))
            self.off((("set", P, node, ZERO),))
            self.off((("push", Q, node),))
            self.off((("guard", ("equal", node, ZERO), True),))
            self.off((("guard", ("less", ZERO, node), False),))
            self.off((("guard", ("has", P, node, 0), True),))
            self.off((("call", "more", (node,)),))
            self.off((), end=("gives", node))
            for word in ("index", "zero"):
                self.off((("fails", ("place", P, node, 0), word),))
                self.off((("fails", ("call", "more", (node,)), word),))
                self.off((("fails", ("minus", node), word),))
                self.off((("fails", ("do", "+", ZERO, node), word),))
                self.off((("fails", ("do", "//", node, ONE), word),))
                self.off((("fails", ("do", "//", node, ZERO), word),))
                self.off((("fails", ("do", "//", ZERO, node), word),))
                self.off((("fails", ("item", P, node, 0), word),))

    def test_values_of_a_call_are_worked_out_ahead_of_it(self):
        step = ("call", "push", (Q, ("do", "//", ONE, ZERO)))
        self.off((step,))
        self.off((("fails", step, "zero"),))

    def test_what_is_fine(self):
        self.gives((("fine", ("do", "//", THREE, TWO)), ("fine", ("item", P, ONE, 0))), ONE, 1)
        self.assertEqual(self.run_of((("fine", ("item", P, ONE, 0)),), ("faults", ("a",)))[0], ("faults", ("a",)))

    def test_places_and_rooms(self):
        for at in range(4):
            place = ("known", at)
            if at < 2:
                self.gives((("set", P, place, THREE),), ("item", P, place, 1), 3)
            else:
                self.off((("set", P, place, THREE),))
            self.off((("set", Q, place, THREE),))
        self.off((("push", P, THREE),))
        self.gives((("push", Q, THREE), ("push", Q, TWO)), ("item", Q, ONE, 2), 2)
        self.off((("push", Q, THREE), ("push", Q, TWO), ("push", Q, ONE)), left=((1, 2), ((1, 2), (3, 2))))
        self.gives((("push", Q, THREE), ("set", Q, ZERO, TWO)), ("item", Q, ZERO, 2), 2)

    def test_fails_of_nodes(self):
        brings = [(("do", "//", ONE, ZERO), "zero"), (("do", "//", ("cell", "c", 0), ("cell", "d", 0)), "zero")]
        brings += [(("item", Q, ZERO, 0), "index"), (("item", P, THREE, 0), "index")]
        for node, word in brings:
            self.gives((("fails", node, word),), ONE, 1)
            for other in ("zero", "index", "full", "a", "no"):
                if other != word:
                    self.off((("fails", node, other),))
        for node in (ONE, ("cell", "c", 0), ("minus", ONE), ("do", "//", ONE, TWO), ("do", "+", ZERO, ZERO), ("item", P, ONE, 0)):
            for word in ("zero", "index", "a"):
                self.off((("fails", node, word),))
        self.off((("fails", X, "zero"),), "n", (0,))

    def test_fails_of_places_and_rooms(self):
        for at, row, word in itertools.product(range(4), (P, Q), ("index", "full", "zero")):
            steps = (("fails", ("place", row, ("known", at), 0), word),)
            if word == "index" and (at > 1 or row == Q):
                self.gives(steps, ONE, 1)
            else:
                self.off(steps)
        for row, word in itertools.product((P, Q), ("index", "full", "zero")):
            steps = (("fails", ("room", row, 0), word),)
            if word == "full" and row == P:
                self.gives(steps, ONE, 1)
            else:
                self.off(steps)

    def test_off_behind_what_was_done(self):
        steps = (("set", P, ZERO, THREE), ("push", Q, ONE), ("put", "c", ZERO), ("guard", FALSE, True), ("put", "d", ZERO))
        self.off(steps, left=((0, 2), ((3, 2), (1,))))


class Calls(Running):

    def test_answers(self):
        steps = (("call", "more", (ONE,)), ("fine", ZERO), ("call", "more", (("result", 0),)))
        end = ("gives", ("do", "-", ("result", 2), ("result", 0)))
        for plan in (HELD, LOOSE):
            found = self.run_of(steps, end, plan=plan)
            self.assertEqual(found, (("gives", 2), ((0, 0), ((1, 2), ())), (0, 1, 0)))

    def test_values_are_handed_on(self):
        steps = (("call", "push", (Y, ("do", "+", X, ONE))), ("call", "push", (Q, X)))
        found = self.run_of(steps, ("gives", ("result", 1)), "nr", (2, "q"))
        self.assertEqual(found, (("gives", 3), ((1, 0), ((1, 2), (3, 2))), (0, 0, 1)))

    def test_a_call_that_faults_is_off(self):
        self.off((("call", "more", (ZERO,)),), left=((1, 3), ((1, 2), ())))
        self.off((("call", "push", (P, ZERO)),))
        self.off((("call", "itself", ()),))
        steps = (("put", "d", TWO), ("call", "more", (ZERO,)))
        self.assertEqual(self.run_of(steps, ("gives", ZERO))[2], (0, 0, 0))
        self.assertEqual(self.run_of(steps, ("gives", ZERO), plan=LOOSE)[2], (0, 1, 0))

    def test_fails_of_calls(self):
        steps = (("fails", ("call", "more", (ZERO,)), "no"),)
        for plan in (HELD, LOOSE):
            found = self.run_of(steps, ("gives", ("cell", "d", 1)), plan=plan)
            self.assertEqual(found, (("gives", 3), ((1, 3), ((1, 2), ())), (0, 1, 0)))
        for word in ("cause", "zero", "yes"):
            self.off((("fails", ("call", "more", (ZERO,)), word),), left=((1, 3), ((1, 2), ())))
        self.off((("fails", ("call", "more", (ONE,)), "no"),), left=((2, 2), ((1, 2), ())))
        self.gives((("fails", ("call", "push", (P, ZERO)), "full"),), ONE, 1)
        self.off((("fails", ("call", "push", (P, ZERO)), "index"),))

    def test_deep(self):
        """A run of a tape is 1 deep, itself stands at 2 and 3."""
        seen = []

        def chain(hand, x):
            seen.append(hand.cell("c").node)
            return hand.call("chain", x + 1) if x < self.most else x

        world = World(4, 1, (("c", 0),), ())
        setup = Setup(world, (("chain", chain, "n"),), 1)
        for own in ((), ("chain",)):
            self.most = 1
            tape = Tape(world, "", (("call", "chain", (ZERO,)),), ("gives", ("result", 0)))
            self.assertEqual(run_tape(setup, Plan(own=own), first_state(setup), tape, ())[0], ("gives", 1))
            self.most = 2
            self.assertIsNone(run_tape(setup, Plan(own=own), first_state(setup), tape, ())[0])
            tape = Tape(world, "", (("fails", ("call", "chain", (ZERO,)), "deep"),), ("gives", ONE))
            self.assertEqual(run_tape(setup, Plan(own=own), first_state(setup), tape, ())[0], ("gives", 1))

    def test_a_tape_whose_calls_are_too_deep(self):
        text = ((("call", "a", ()),), ("gives", ("result", 0)))
        fails = ((("fails", ("call", "a", ()), "deep"),), ("gives", ("known", 1)))
        setup = Setup(World(2, 1, (), ()), (("a", lambda hand: 0, ""),), 2)
        tape = Tape(setup.world, "", *text)
        told, state = run_tape(setup, Plan(), (((), ()), ((text,),)), tape, ())
        # At 3 deep the tape calls what would stand 4 deep, and is off; there the work is taped: it gives 0.
        self.assertEqual((told, state), (("gives", 0), (((), ()), ((text, ((), ("gives", ZERO))),))))
        told, state = run_tape(setup, Plan(), (((), ()), ((fails,),)), tape, ())
        self.assertEqual((told, len(state[1][0])), (("gives", 0), 2))
        told, state = run_tape(setup, Plan(), (((), ()), ((text, fails),)), tape, ())
        self.assertEqual((told, state[1]), (("gives", 1), ((text, fails),)))

    def test_things_are_not_counted(self):
        steps = (("put", "c", ("do", "+", ("cell", "c", 0), ONE)),) * 30 + (("call", "more", (ONE,)),) * 30
        self.assertEqual(self.run_of(steps, ("gives", ("result", 59)))[0], ("gives", 0))

    def test_keepers_run_tapes_upon_the_world_of_the_run(self):
        text = ((("put", "d", ("do", "+", ("cell", "d", 0), X)), ("guard", ("less", ("cell", "d", 1), TWO), True)), ("gives", THREE))
        steps = (("put", "d", ONE), ("call", "more", (ZERO,)), ("call", "more", (TWO,)))
        for plan, left in ((HELD, ((3, 1), ((1, 2), ()))), (LOOSE, ((3, 3), ((1, 2), ())))):
            state = (WORLD.first, ((), (text,), ()))
            told, after = run_tape(SETUP, plan, state, Tape(WORLD, "", steps, ("gives", ("result", 1))), ())
            self.assertEqual((told, after[0], len(after[1][1])), (("gives", 3), left, 2))


class ByChance(unittest.TestCase):
    """Tapes made by chance, beside the reckoning of the tests."""

    worlds = [
        World(2, 1, (("c", 1),), ()), World(3, 2, (), (("p", (1,)), ("q", ()))),
        World(4, 2, (("c", 1), ("d", 3)), (("p", (2,)),)), World(2, 2, (("c", 0),), (("p", ()), ("q", (1,)))),
    ]

    def check(self, seed):
        world = self.worlds[seed % 4]
        rows = "r" if world.rows else "n"
        kinds = {"v": "n", "w": rows}
        maker = Maker(seed, world.size, [name for name, _ in world.cells], [name for name, _ in world.rows], kinds)
        scripts = {name: maker.script(name, 3) for name in kinds}
        works = tuple((name, work_of(world.size, scripts[name]), kinds[name]) for name in kinds)
        setup = Setup(world, works, 1 + seed % 2)
        plan = Plan(GUARDS[:seed % 3], known=seed % 5 < 2, held=seed % 7 < 4, own=("w",)[:seed % 2])
        own = {name: kinds[name] for name in sorted(kinds)[:seed % 3]}
        texts = [TapeMaker(seed, world, kinds[name], own).tape(2) for name in sorted(kinds)]
        state = (world.first, tuple(((text.steps, text.end),) for text in texts))
        tape = TapeMaker(seed + 1, world, ("n", rows + "n")[seed % 2], own).tape(1 + seed % 4)
        ends = 0
        for values in Setup(world, (("t", None, tape.kinds),), 1).deeds:
            found = run_tape(setup, plan, state, tape, values[2])
            field = Field(world, scripts, kinds, setup.places, state)
            told = by_tape(field, plan, (tape.steps, tape.end), values[2], 1)
            self.assertEqual(found, (told, field.state()), seed)
            if not own:
                self.check_call(tape, state[0], values[2], scripts, kinds)
            state, ends = (field.stand(), state[1]), ends + (told is not None)
        return ends

    def check_call(self, tape, stand, values, scripts, kinds):
        field = Field(tape.world, scripts, kinds, 1)
        field.lay(stand)
        told = by_tape(field, HELD, (tape.steps, tape.end), values, 1)
        self.assertEqual(tape(*stand, values), None if told is None else (told, *field.stand()))

    def test_many_tapes(self):
        ends = sum(self.check(seed) for seed in range(900))
        self.assertGreater(ends, 400)


if __name__ == "__main__":
    unittest.main()
