"""Section 11: states, keepers, and the functions of keeping.py."""

import inspect
import itertools
import unittest

from tapedonce.errors import BadDeed, BadPlan, BadState, BadTape, BadValues
from tapedonce.keeping import first_state, kept, run_tape
from tapedonce.plans import Plan
from tapedonce.tapes import Tape
from tapedonce.worlds import Setup, World
from tests.making import Refusing, small_world
from tests.reckoning import reckoned_kept
from tests.scripts import GUARDS, Maker, work_of
from tests.values import any_values

ZERO, ONE, TWO = ("known", 0), ("known", 1), ("known", 2)
X, Y = ("arg", 0), ("arg", 1)
G = Plan(("g",))
BARE = World(4, 1, (), ())


def guarded(hand, x):
    """Tells x in a way that has a tape for each x."""
    for n in range(4):
        if hand.holds(x == n, "g"):
            return n


def text_of(n):
    """The text of a tape of guarded."""
    steps = tuple(("guard", ("equal", X, ("known", k)), k == n) for k in range(n + 1))
    return steps, ("gives", ("known", n))


class Keepers(unittest.TestCase):

    def follow(self, setup, plan, *deeds, state=None):
        """What deeds tell, and the state behind them."""
        state, told = state or first_state(setup), []
        for deed in deeds:
            found = kept(setup, plan, state, deed)
            told.append(found[0])
            state = found[1]
        return told, state

    def test_the_first_state(self):
        world = small_world()
        for many in (1, 2, 3):
            works = tuple((name, None, "") for name in "abc"[:many])
            self.assertEqual(first_state(Setup(world, works, 1)), (world.first, ((),) * many))
            self.assertEqual(first_state(setup=Setup(world, works, 2)), (world.first, ((),) * many))

    def test_rooms(self):
        for room in (1, 2):
            setup = Setup(BARE, (("work", guarded, "n"),), room)
            for values in itertools.product(range(4), repeat=4):
                texts = []
                for n in values:
                    if n not in texts:
                        texts = (texts + [n])[-room:]
                told, state = self.follow(setup, G, *[("call", "work", (n,)) for n in values])
                self.assertEqual(told, [("gives", n) for n in values])
                self.assertEqual(state, (((), ()), (tuple(text_of(n) for n in texts),)))

    def test_tapes_are_run_the_eldest_first_until_one_is_not_off(self):
        runs = []

        def work(hand, x):
            runs.append(x.worth)
            return x

        setup = Setup(BARE, (("work", work, "n"),), 2)
        off = ((("guard", ("false",), True),), ("gives", ONE))
        less = ((("guard", ("less", X, TWO), True),), ("gives", TWO))
        more = ((), ("gives", ("known", 3)))
        for texts, x, told, taped in (
            ((less, more), 1, 2, 0), ((less, more), 2, 3, 0), ((more, less), 1, 3, 0), ((off, less), 1, 2, 0),
            ((off, less), 2, 2, 1), ((off,), 1, 1, 1), ((), 3, 3, 1), ((off, more), 0, 3, 0),
        ):
            runs.clear()
            found, state = kept(setup, Plan(), (((), ()), (texts,)), ("call", "work", (x,)))
            self.assertEqual((found, len(runs)), (("gives", told), taped))
            behind = (texts + (((), ("gives", X)),))[-2:] if taped else texts
            self.assertEqual(state, (((), ()), (behind,)))

    def test_what_a_tape_that_is_off_has_done_is_there_if_it_is_not_held(self):
        world = World(4, 1, (("c", 0),), ())
        setup = Setup(world, (("work", lambda hand: hand.cell("c"), ""),), 2)
        off = ((("put", "c", ("do", "+", ("cell", "c", 0), ONE)), ("guard", ("false",), True)), ("gives", ONE))
        other = (off[0][:1] + off[0], ("gives", ONE))
        state = (((0,), ()), ((off, other),))
        deed = ("call", "work", ())
        own = ((), ("gives", ("cell", "c", 0)))
        self.assertEqual(kept(setup, Plan(), state, deed), (("gives", 0), (((0,), ()), ((other, own),))))
        self.assertEqual(kept(setup, Plan(held=False), state, deed), (("gives", 2), (((2,), ()), ((other, own),))))
        state = (((0,), ()), ((off, own),))
        self.assertEqual(kept(setup, Plan(), state, deed), (("gives", 0), state))
        self.assertEqual(kept(setup, Plan(held=False), state, deed), (("gives", 1), (((1,), ()), ((off, own),))))

    def test_faults_are_told_and_taped(self):
        def work(hand, x):
            hand.put("c", x)
            return hand.tried(lambda: 1 // x, lambda word: hand.fail("no"))

        world = World(4, 1, (("c", 1),), ())
        setup = Setup(world, (("work", work, "n"),), 2)
        told, state = kept(setup, Plan(), first_state(setup), ("call", "work", (0,)))
        text = ((("put", "c", X), ("fails", ("do", "//", ONE, X), "zero")), ("faults", ("no", "zero")))
        self.assertEqual((told, state), (("faults", ("no", "zero")), (((0,), ()), ((text,),))))
        again = kept(setup, Plan(), (((3,), ()), ((text,),)), ("call", "work", (0,)))
        self.assertEqual(again, (("faults", ("no", "zero")), (((0,), ()), ((text,),))))
        other = kept(setup, Plan(), state, ("call", "work", (2,)))
        self.assertEqual((other[0], len(other[1][1][0])), (("gives", 0), 2))

    def test_a_run_without_a_tape(self):
        setup = Setup(BARE, (("work", lambda hand: hand.fail("long"), ""),), 1)
        state = first_state(setup)
        self.assertEqual(kept(setup, Plan(), state, ("call", "work", ())), (("faults", ("long",)), state))

    def test_a_change_leaves_all_tapes(self):
        world = World(4, 2, (("c", 1), ("d", 0)), (("p", (1,)), ("q", ())), ("c", "q"))
        setup = Setup(world, (("work", guarded, "n"),), 2)
        tapes = ((text_of(1), text_of(0)),)
        state = (world.first, tapes)
        for worth in range(4):
            found = kept(setup, G, state, ("change", "c", worth))
            self.assertEqual(found, (None, (((worth, 0), ((1,), ())), tapes)))
        for items in ((), (2,), (3, 0)):
            found = kept(deed=("change", "q", items), state=state, plan=G, setup=setup)
            self.assertEqual(found, (None, (((1, 0), ((1,), items)), tapes)))
        self.assertEqual(state, (((1, 0), ((1,), ())), ((text_of(1), text_of(0)),)))

    def test_an_inner_run_writes_the_same_text_ahead(self):
        """The outer run comes behind the inner one: its text is there then."""
        def same(hand):
            if hand.cell("c") == 0:
                hand.tried(lambda: hand.call("same"), lambda word: 0)
            return 2

        world = World(4, 1, (("c", 0),), ())
        setup = Setup(world, (("same", same, ""),), 2)
        told, state = kept(setup, Plan(), first_state(setup), ("call", "same", ()))
        self.assertEqual((told, state[1]), (("gives", 2), ((((), ("gives", TWO)),),)))
        told, state = kept(setup, Plan(own=("same",)), first_state(setup), ("call", "same", ()))
        calls = [((("call", "same", ()),), ("gives", TWO))]
        self.assertEqual(told, ("gives", 2))
        # The innermost one is too deep to call: its tape has nothing; the others call, and have one text.
        self.assertEqual(state[1], ((((), ("gives", TWO)), calls[0]),))

    def test_tapes_that_change_while_one_runs(self):
        """A keeper with room for one tape: the inner call's tape takes the place of the one that runs, which goes on."""
        def work(hand, x):
            return x + 1

        setup = Setup(BARE, (("work", work, "n"),), 1)
        text = ((("guard", ("less", X, TWO), True), ("call", "work", (TWO,))), ("gives", ("do", "+", ("result", 1), X)))
        state = (((), ()), ((text,),))
        found = kept(setup, Plan(), state, ("call", "work", (1,)))
        self.assertEqual(found, (("gives", 0), (((), ()), ((((), ("gives", ("do", "+", X, ONE))),),))))

    def test_tapes_that_came_since_the_call_began_are_not_run(self):
        """The tape that is off calls its own keeper, which has another tape behind; not held, this stays."""
        runs = []

        def work(hand, x):
            runs.append(x.worth)
            return x + 1

        setup = Setup(BARE, (("work", work, "n"),), 2)
        text = ((("guard", ("less", X, TWO), True), ("call", "work", (TWO,)), ("guard", ("false",), True)), ("gives", ONE))
        plain = ((), ("gives", ("do", "+", X, ONE)))
        found = kept(setup, Plan(held=False), (((), ()), ((text,),)), ("call", "work", (1,)))
        self.assertEqual((found, runs), ((("gives", 2), (((), ()), ((text, plain),))), [2, 1]))
        runs.clear()
        found = kept(setup, Plan(), (((), ()), ((text,),)), ("call", "work", (1,)))
        self.assertEqual((found, runs), ((("gives", 2), (((), ()), ((text, plain),))), [2, 1]))

    def test_own_works_keep_their_tapes(self):
        def outer(hand, x):
            return hand.call("inner", x) + hand.call("inner", x)

        world = World(4, 1, (), ())
        setup = Setup(world, (("inner", guarded, "n"), ("outer", outer, "n")), 2)
        plan = Plan(("g",), own=("inner",))
        told, state = self.follow(setup, plan, ("call", "outer", (1,)), ("call", "outer", (2,)), ("call", "inner", (3,)))
        self.assertEqual(told, [("gives", 2), ("gives", 0), ("gives", 3)])
        calls = (("call", "inner", (X,)),) * 2
        text = (calls, ("gives", ("do", "+", ("result", 0), ("result", 1))))
        self.assertEqual(state[1], ((text_of(2), text_of(3)), (text,)))

    def test_a_held_run_that_is_off_takes_back_the_tapes_of_inner_calls(self):
        world = World(4, 1, (), ())
        setup = Setup(world, (("inner", guarded, "n"), ("outer", lambda hand: 1, "")), 2)
        off = ((("call", "inner", (TWO,)), ("guard", ("false",), True)), ("gives", ONE))
        plain = ((), ("gives", ONE))
        state = (((), ()), ((), (off,)))
        self.assertEqual(kept(setup, G, state, ("call", "outer", ()))[1][1], ((), (off, plain)))
        self.assertEqual(kept(setup, Plan(("g",), held=False), state, ("call", "outer", ()))[1][1], ((text_of(2),), (off, plain)))

    def test_scripts_beside_the_reckoning(self):
        worlds = [
            World(2, 1, (("c", 1),), (), ("c",)), World(3, 2, (), (("p", (1,)), ("q", ())), ("q",)),
            World(4, 2, (("c", 1), ("d", 3)), (("p", (2,)),)), World(2, 1, (("c", 0),), (("p", ()), ("q", (1,))), ("c", "p")),
        ]
        for seed in range(320):
            world = worlds[seed // 80]
            rows = "r" if world.rows else "n"
            kinds = [{"v": "n", "w": ""}, {"u": "n", "v": rows, "w": ""}, {"w": rows + "n"}][seed % 3]
            maker = Maker(seed, world.size, [name for name, _ in world.cells], [name for name, _ in world.rows], kinds)
            scripts = {name: maker.script(name) for name in kinds}
            works = tuple((name, work_of(world.size, scripts[name]), kinds[name]) for name in kinds)
            setup = Setup(world, works, 1 + seed % 2)
            plan = Plan(GUARDS[:seed % 4], known=seed % 5 < 2, held=seed % 7 < 4, own=tuple(sorted(kinds))[:seed % 11 % 4])
            state = first_state(setup)
            for k in range(15):
                deed = setup.deeds[(seed * 7 + k * k * 5) % len(setup.deeds)]
                found = kept(setup, plan, state, deed)
                self.assertEqual(found, reckoned_kept(world, scripts, kinds, setup.places, plan, state, deed), (seed, k))
                state = found[1]


class Refused(unittest.TestCase, Refusing):

    world = World(3, 2, (("c", 1),), (("p", (1,)), ("q", ())), ("c",))
    works = (("a", lambda hand, x: x, "n"), ("b", lambda hand, row: row[0], "r"), ("e", lambda hand: 0, ""))
    setup = Setup(world, works, 2)
    one = Setup(world, works, 1)
    stand = ((1,), ((1,), ()))
    text = ((), ("gives", X))
    other = ((), ("gives", ("item", X, ZERO, 0)))

    def call(self, name, *values):
        return ((("call", name, values),), ("gives", ("result", 0)))

    def no_states(self):
        """What is no state of the setup, each in one way."""
        stand, text = self.stand, self.text
        found = any_values() + [(stand,), (stand, ((), (), ()), ()), [stand, ((), (), ())], (stand, [(), (), ()])]
        found += [(bad, ((), (), ())) for bad in (((3,), ((1,), ())), ((1,), ((1,),)), ([1], ((1,), ())), ((), ()), None)]
        found += [(stand, tapes) for tapes in ((), ((), ()), ((), (), (), ()), None, ((), (), []), ([], (), ()), ((), (), None))]

        def with_a(*texts):
            return stand, (texts, (), ())

        def fails(name, *values):
            return ((("fails", ("call", name, values), "no"),), ("gives", ZERO))

        found += [with_a(text, ((), ("gives", ZERO)), ((), ("gives", ONE))), with_a(text, text), with_a(list(text))]
        found += [with_a(bad) for bad in (None, (), text + ((),), text[:1], ((), ()), ([], ("gives", X)), ((), ["gives", X]))]
        found += [with_a(((), ("gives", bad))) for bad in (("known", 3), ("arg", 1), ("cell", "d", 0), ("cell", "c", 1), None)]
        found += [with_a((bad, ("gives", ZERO))) for bad in (None, (None,), (("fine",),), (("fine", ZERO),) * 61)]
        found += [with_a(self.other), (stand, ((), (self.text,), ())), (stand, ((), (), (self.text,)))]
        found += [with_a(self.call(*bad)) for bad in (("d", X), ("c",), ("a",), ("a", X, X), ("a", ("row", "p")), ("b", X), ("b", ONE))]
        found += [with_a(self.call(*bad)) for bad in (("b",), ("e", X), ("e", ("row", "p")))]
        found += [with_a(fails(*bad)) for bad in (("d", X), ("a",), ("a", ("row", "p")), ("b", X), ("e", X), ("work",))]
        found += [(stand, ((), (self.call("a", X),), ())), (stand, ((), (fails("a", X),), ()))]
        return found

    def states(self):
        """States of the setup."""
        stand, text, other = self.stand, self.text, self.other
        found = [((), (), ()), ((text,), (other,), ()), ((text, ((), ("gives", ZERO))), (), (((), ("faults", ("zero",))),))]
        found += [((self.call("a", X), text), (self.call("b", X), self.call("b", ("row", "q"))), (self.call("e"),))]
        found += [((((("fails", ("call", "a", (ONE,)), "no"),), ("gives", X)),), (), ())]
        return [(stand, tapes) for tapes in found] + [(((2,), ((0, 0), (2,))), ((), (), ()))]

    def tape(self):
        return Tape(self.world, "", (), ("gives", ZERO))

    def test_states(self):
        for state in self.states():
            self.assertEqual(kept(self.setup, Plan(), state, ("change", "c", 2))[1][1], state[1])
            self.assertEqual(run_tape(self.setup, Plan(), state, self.tape(), ()), (("gives", 0), state))

    def test_what_is_no_state(self):
        for value in self.no_states():
            with self.subTest(value=repr(value)[:80]):
                self.refused(BadState, value, kept, self.setup, Plan(), value, ("call", "a", (0,)))
                self.refused(BadState, value, kept, deed=None, state=value, plan=Plan(), setup=self.setup)
                self.refused(BadState, value, run_tape, self.setup, Plan(), value, self.tape(), ())

    def test_more_tapes_than_there_is_room_for(self):
        two = (self.stand, ((self.text, ((), ("gives", ZERO))), (), ()))
        self.refused(BadState, two, kept, self.one, Plan(), two, ("call", "a", (0,)))
        self.assertEqual(kept(self.setup, Plan(), two, ("call", "a", (0,)))[0], ("gives", 0))

    def test_what_is_no_deed(self):
        state = first_state(self.setup)
        for value in any_values() + [("call", "a", ()), ("call", "b", ("c",)), ("change", "p", ()), ("change", "c", 3), ["call", "e", ()]]:
            self.refused(BadDeed, value, kept, self.setup, Plan(), state, value)
            self.refused(BadDeed, value, kept, deed=value, state=state, plan=Plan(), setup=self.setup)

    def test_tapes_of_others(self):
        state, plan = first_state(self.setup), Plan()
        worlds = [World(4, 2, (("c", 1),), (("p", (1,)), ("q", ())), ("c",)), World(3, 2, (("c", 1),), (("p", (1,)), ("q", ())))]
        tapes = [Tape(world, "", (), ("gives", ZERO)) for world in worlds]
        for steps in ((("call", "d", ()),), (("call", "a", ()),), (("call", "a", (("row", "p"),)),), (("call", "b", (X,)),), (("call", "e", (X,)),)):
            tapes.append(Tape(self.world, "n", (("fine", ZERO),) + steps, ("gives", ZERO)))
            tapes.append(Tape(self.world, "n", (("fails", steps[0], "no"),), ("gives", ZERO)))
        tapes.append(Tape(self.world, "r", (("call", "a", (X,)),), ("gives", ZERO)))
        for tape in tapes:
            for values in ((), (0,), None):
                self.refused(BadTape, tape, run_tape, self.setup, plan, state, tape, values)
        for value in any_values():
            self.refused(BadTape, value, run_tape, self.setup, plan, state, value, ())
        alike = World(3, 2, (("c", 1),), (("p", (1,)), ("q", ())), ("c",))
        self.assertEqual(run_tape(self.setup, plan, state, Tape(alike, "", (), ("gives", ONE)), ())[0], ("gives", 1))
        tape = Tape(self.world, "r", (("call", "b", (X,)),), ("gives", ("result", 0)))
        self.assertEqual(run_tape(self.setup, plan, state, tape, ("p",))[0], ("gives", 1))

    def test_values_of_a_tape(self):
        state = first_state(self.setup)
        tape = Tape(self.world, "nrnnnr", (), ("gives", X))
        right = (2, "p", 0, 1, 2, "q")
        self.assertEqual(run_tape(self.setup, Plan(), state, tape, right)[0], ("gives", 2))
        self.assertEqual(run_tape(values=right, tape=tape, state=state, plan=Plan(), setup=self.setup)[0], ("gives", 2))
        wrong = any_values() + [list(right), right[:5], right + (0,), (3,) + right[1:], (True,) + right[1:], right[:5] + ("c",)]
        for value in wrong + [right[:1] + (0,) + right[2:]]:
            self.refused(BadValues, value, run_tape, self.setup, Plan(), state, tape, value)

    def test_the_sequence_of_the_errors(self):
        plan, fitting, state = Plan(own=("d",)), Plan(), first_state(self.setup)
        bad_tape = Tape(self.world, "", (("call", "d", ()),), ("gives", ZERO))
        for bad_state, bad in itertools.product((None, ()), (None, (), 1)):
            self.refused(BadPlan, plan, kept, self.setup, plan, bad_state, bad)
            self.refused(BadPlan, plan, run_tape, self.setup, plan, bad_state, bad_tape, bad)
            self.refused(BadState, bad_state, kept, self.setup, fitting, bad_state, bad)
            self.refused(BadState, bad_state, run_tape, self.setup, fitting, bad_state, bad_tape, bad)
            self.refused(BadTape, bad_tape, run_tape, self.setup, fitting, state, bad_tape, bad)

    def test_the_functions_are_as_listed(self):
        listed = {first_state: ["setup"], kept: ["setup", "plan", "state", "deed"],
                  run_tape: ["setup", "plan", "state", "tape", "values"]}
        for function, names in listed.items():
            self.assertEqual(function.__module__, "tapedonce.keeping")
            self.assertEqual([*inspect.signature(function).parameters], names)


class Examples(unittest.TestCase):

    def test_held_and_not(self):
        def work(hand, x):
            return [hand.put("c", 1 - hand.cell("c")), [0, 1][int(hand.holds(x == 0, "g"))]][1]

        setup = Setup(World(2, 1, (("c", 0),), ()), (("work", work, "n"),), 1)
        one = kept(setup, Plan(("g",)), first_state(setup), ("call", "work", (0,)))
        self.assertEqual([one[0], one[1][0], len(one[1][1][0])], [("gives", 1), ((1,), ()), 1])
        two = kept(setup, Plan(("g",), held=False), one[1], ("call", "work", (1,)))
        found = [two[0], two[1][0], kept(setup, Plan(("g",)), one[1], ("call", "work", (1,)))[1][0]]
        self.assertEqual(found, [("gives", 0), ((1,), ()), ((0,), ())])


if __name__ == "__main__":
    unittest.main()
