"""Section 15: tapes joined, one behind the other."""

import inspect
import unittest

from tapedonce.doings import doing_of
from tapedonce.errors import BadKinds, BadSteps, BadTape
from tapedonce.joining import joined
from tapedonce.tapes import Lot, Tape
from tapedonce.worlds import World
from tests.keysets import behind, keys_of, table_of
from tests.making import Refusing
from tests.tapemaker import TapeMaker
from tests.test_doings import WORLDS, drawn, drawn_kinds, few_keys
from tests.values import any_values

WORLD = World(2, 1, (("c", 0),), (("p", ()),))
TWIN = World(2, 1, (("c", 0),), (("p", ()),))
X, ZERO = ("arg", 0), ("known", 0)


class Steps(unittest.TestCase, Refusing):

    def test_numbers_grow(self):
        one = Tape(WORLD, "nr", (("put", "c", X), ("call", "w", (X, ("arg", 1))), ("fails", ("call", "w", ()), "no"), ("guard", ("true",), True)), ("gives", ("do", "+", ("result", 1), ("cell", "c", 3))))
        steps = (
            ("guard", ("and", ("equal", ("arg", 1), ("cell", "c", 0)), ("has", ("arg", 0), ("arg", 1), 0)), False), ("set", ("arg", 0), ("minus", ("arg", 1)), ZERO),
            ("call", "w", (("arg", 1), ("arg", 0), ("row", "p"))), ("push", ("row", "p"), ("result", 2)), ("fails", ("place", ("arg", 0), ("item", ("row", "p"), ("result", 2), 3), 2), "index"),
            ("fails", ("room", ("arg", 0), 1), "full"), ("fails", ("do", "//", ("arg", 1), ("cell", "c", 3)), "zero"), ("fails", ("call", "v", (("arg", 0), ("arg", 1))), "no"),
            ("fine", ("cell", "c", 4)), ("put", "c", ("arg", 1)), ("guard", ("or", ("same", ("arg", 0), ("row", "p")), ("unlike", ("less", ZERO, ("arg", 1)), ("false",))), True),
        )
        other = Tape(TWIN, "rn", steps, ("gives", ("item", ("arg", 0), ("result", 2), 5)))
        both = joined(one, other)
        self.assertEqual(both.kinds, "nrrn")
        self.assertEqual(both.world, WORLD)
        self.assertEqual(both.steps[:5], one.steps + (("fine", ("do", "+", ("result", 1), ("cell", "c", 3))),))
        self.assertEqual(both.steps[5:], (
            ("guard", ("and", ("equal", ("arg", 3), ("cell", "c", 3)), ("has", ("arg", 2), ("arg", 3), 3)), False), ("set", ("arg", 2), ("minus", ("arg", 3)), ZERO),
            ("call", "w", (("arg", 3), ("arg", 2), ("row", "p"))), ("push", ("row", "p"), ("result", 7)), ("fails", ("place", ("arg", 2), ("item", ("row", "p"), ("result", 7), 6), 5), "index"),
            ("fails", ("room", ("arg", 2), 4), "full"), ("fails", ("do", "//", ("arg", 3), ("cell", "c", 6)), "zero"), ("fails", ("call", "v", (("arg", 2), ("arg", 3))), "no"),
            ("fine", ("cell", "c", 7)), ("put", "c", ("arg", 3)), ("guard", ("or", ("same", ("arg", 2), ("row", "p")), ("unlike", ("less", ZERO, ("arg", 3)), ("false",))), True),
        ))
        self.assertEqual(both.end, ("gives", ("item", ("arg", 2), ("result", 7), 8)))
        self.assertEqual(joined(other=other, one=one), both)

    def test_one_that_faults(self):
        one = Tape(WORLD, "n", (("put", "c", X),), ("faults", ("no", "zero")))
        other = Tape(WORLD, "rn", (("put", "c", ZERO),), ("gives", ZERO))
        self.assertEqual(joined(one, other), Tape(WORLD, "nrn", one.steps, one.end))

    def test_other_that_faults(self):
        one, other = Tape(WORLD, "", (), ("gives", ZERO)), Tape(WORLD, "n", (("fine", X),), ("faults", ("no", "zero")))
        self.assertEqual(joined(one, other), Tape(WORLD, "n", (("fine", ZERO), ("fine", X)), ("faults", ("no", "zero"))))
        self.assertEqual(joined(one, one), Tape(WORLD, "", (("fine", ZERO),), ("gives", ZERO)))

    def test_neither_is_changed(self):
        one, other = Tape(WORLD, "n", (("put", "c", X),), ("gives", X)), Tape(WORLD, "n", (("put", "c", X),), ("gives", X))
        joined(one, other)
        self.assertEqual((one.steps, one.kinds, other.steps, other.kinds), ((("put", "c", X),), "n", (("put", "c", X),), "n"))


class Doings(unittest.TestCase):

    def test_tapes_by_chance(self):
        seen, off = 0, 0
        for seed in range(150):
            world = WORLDS[seed % 4]
            kinds, more = drawn_kinds(seed, world, 2), drawn_kinds(seed + 500, world, 2)
            if not few_keys(world, kinds + more):
                continue
            one, other = drawn(seed, world, kinds), drawn(seed + 900, world, more)
            both = joined(one, other)
            self.assertEqual(table_of(both), behind(table_of(one), table_of(other), kinds))
            self.assertEqual(doing_of(both), doing_of(one) & doing_of(other))
            seen += 1
            off += len(doing_of(both)) not in (0, len(keys_of(world, both.kinds)))
        self.assertGreater(min(seen, off), 25)

    def test_tapes_with_calls_have_the_form_of_tapes(self):
        for seed in range(80):
            works = {"v": "n", "w": "rn"}
            one, other = TapeMaker(seed, WORLD, "nr", works).tape(6), TapeMaker(seed + 1, WORLD, "rn", works).tape(6)
            both = joined(one, other)
            self.assertEqual(Tape.read(WORLD, both.written()), both)
            if one.end[0] == "gives":
                self.assertEqual(len(both.steps), 13)
                self.assertEqual([step[0] for step in both.steps], [step[0] for step in one.steps] + ["fine"] + [step[0] for step in other.steps])


class Refused(unittest.TestCase, Refusing):

    def test_what_is_no_tape(self):
        tape = Tape(WORLD, "nnnn", (("fine", ZERO),) * 60, ("gives", ZERO))
        for value in any_values() + [Lot(tape), Tape, (tape,), WORLD]:
            self.refused(BadTape, value, joined, value, tape)
            self.refused(BadTape, value, joined, tape, value)
            self.refused(BadTape, value, joined, value, None)
        for world in (World(2, 1, (("c", 1),), (("p", ()),)), World(2, 2, (("c", 0),), (("p", ()),)), World(2, 1, (("c", 0),), (("p", ()),), ("c",))):
            other = Tape(world, "nnnn", (), ("gives", ZERO))
            self.refused(BadTape, other, joined, tape, other)
            self.refused(BadTape, tape, joined, other, tape)

    def test_too_long(self):
        fine = ("fine", ZERO)
        for many in range(7):
            for more in range(7):
                for end in (("gives", ZERO), ("faults", ("no",))):
                    one, other = Tape(WORLD, "n" * many, (fine,) * 60, end), Tape(WORLD, "r" * more, (fine,) * 60, ("gives", ZERO))
                    if many + more > 6:
                        self.raises(BadKinds, "value", "n" * many + "r" * more, joined, one, other)
                    elif end[0] == "gives":
                        self.raises(BadSteps, "value", (fine,) * 121, joined, one, other)
                    else:
                        self.assertEqual(joined(one, other).kinds, "n" * many + "r" * more)
        for many, more in ((0, 59), (59, 0), (29, 30), (0, 0)):
            one, other = Tape(WORLD, "", (fine,) * many, ("gives", ZERO)), Tape(WORLD, "", (("put", "c", ZERO),) * more, ("gives", ZERO))
            self.assertEqual(len(joined(one, other).steps), many + more + 1)
        for many, more in ((0, 60), (60, 0), (30, 30)):
            one, other = Tape(WORLD, "", (fine,) * many, ("gives", ZERO)), Tape(WORLD, "", (("put", "c", ZERO),) * more, ("gives", ZERO))
            self.raises(BadSteps, "value", (fine,) * (many + 1) + (("put", "c", ZERO),) * more, joined, one, other)

    def test_the_function_is_as_listed(self):
        self.assertEqual(joined.__module__, "tapedonce.joining")
        self.assertEqual([*inspect.signature(joined).parameters], ["one", "other"])


class Examples(unittest.TestCase):

    def test_a_put_and_a_cell(self):
        world = World(2, 1, (("c", 0),), ())
        one, other = Tape(world, "n", (("put", "c", ("arg", 0)),), ("gives", ("known", 0))), Tape(world, "", (), ("gives", ("cell", "c", 0)))
        both = joined(one, other)
        told = [both.steps, both.end, doing_of(both) == doing_of(one) & doing_of(other)]
        self.assertEqual(told, [(("put", "c", ("arg", 0)), ("fine", ("known", 0))), ("gives", ("cell", "c", 1)), True])


if __name__ == "__main__":
    unittest.main()
