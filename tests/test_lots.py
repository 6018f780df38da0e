"""Section 15, what it says of tapes that are called, and of lots."""

import inspect
import itertools
import unittest

from tapedonce.errors import BadPlace, BadTape, Empty, NoKey, TooMany
from tapedonce.numbers import Number
from tapedonce.tapes import Lot, Tape
from tapedonce.worlds import World
from tests.making import Refusing
from tests.tapemaker import TapeMaker
from tests.values import any_values, is_plain

WORLD = World(3, 2, (("c", 1),), (("p", (1,)), ("q", ())))
TWIN = World(3, 2, (("c", 1),), (("p", (1,)), ("q", ())))
ZERO, X = ("known", 0), ("arg", 0)


def only(n, tells=0, kinds="n", world=WORLD):
    """A tape that is off unless the first value is n."""
    return Tape(world, kinds, (("guard", ("equal", X, ("known", n)), True),), ("gives", ("known", tells)))


def plain(tells=0, kinds="n", world=WORLD):
    return Tape(world, kinds, (), ("gives", ("known", tells)))


CALL = Tape(WORLD, "n", (("call", "w", ()),), ("gives", ZERO))
FAILS = Tape(WORLD, "n", (("fine", X), ("fails", ("call", "w", ()), "a")), ("gives", ZERO))
OTHERS = [
    plain(kinds=""), plain(kinds="nn"), plain(kinds="r"), plain(world=World(3, 2, (("c", 0),), (("p", (1,)), ("q", ())))),
    plain(world=World(4, 2, (("c", 1),), (("p", (1,)), ("q", ())))), plain(world=World(3, 2, (("c", 1),), (("p", (1,)), ("q", ())), ("c",))),
]


def no_tapes():
    """What may not stand in a lot beside plain()."""
    found = any_values() + [CALL, FAILS, WORLD, Lot(plain()), (plain(),), [plain()], Tape]
    return found + OTHERS


def keys():
    for worth, p, q, x in itertools.product(range(3), ((), (0,), (2, 1)), ((), (1,)), range(3)):
        yield (worth,), (p, q), (x,)


def wrong_keys():
    right = ((1,), ((1,), ()), (0,))
    wrong = any_values() + [[1], ((1,), ()), [(1,), ()], ((1,), (), ()), ((3,), ()), ((1,), (0, 0, 0)), (3,), (True,), (-1,), ("p",)]
    for at in range(3):
        for value in wrong:
            key = right[:at] + (value,) + right[at + 1:]
            if not (at == 0 and value == (1,) or at == 1 and value == ((1,), ())):
                if not (type(value) is tuple and len(value) == 1 and is_plain(value[0]) and value[0] in (0, 1, 2) and at != 1):
                    yield key


class CalledTapes(unittest.TestCase, Refusing):

    def test_what_is_told_at_a_key(self):
        tape = Tape(WORLD, "nr", (("put", "c", X), ("guard", ("less", X, ("known", 2)), True), ("push", ("arg", 1), X)), ("gives", ("item", ("arg", 1), ZERO, 2)))
        for name, x in itertools.product("pq", range(3)):
            told = tape((1,), ((1,), ()), (x, name))
            if x == 2:
                self.assertIsNone(told)
            else:
                items = ((1, x), ()) if name == "p" else ((1,), (x,))
                self.assertEqual(told, (("gives", 1 if name == "p" else x), (x,), items))
        self.assertIsNone(tape((1,), ((1, 1), ()), (0, "p")))
        by_name = tape(values=(0, "q"), items=((1,), ()), worths=(1,))
        self.assertEqual(by_name, (("gives", 0), (0,), ((1,), (0,))))

    def test_faults_are_told(self):
        tape = Tape(WORLD, "n", (("put", "c", X), ("fails", ("do", "//", ("known", 1), X), "zero")), ("faults", ("no", "zero")))
        self.assertEqual(tape((1,), ((), ()), (0,)), (("faults", ("no", "zero")), (0,), ((), ())))
        self.assertIsNone(tape((1,), ((), ()), (1,)))

    def test_kinds_of_any_length(self):
        tape = Tape(WORLD, "nrnrnn", (), ("gives", ("arg", 5)))
        self.assertEqual(tape((0,), ((), ()), (0, "p", 1, "q", 0, 2)), (("gives", 2), (0,), ((), ())))
        tape = Tape(World(2, 1, (), ()), "", (), ("gives", ZERO))
        self.assertEqual(tape((), (), ()), (("gives", 0), (), ()))

    def test_calls_are_refused_ahead_of_keys(self):
        for tape in (CALL, FAILS):
            for key in (((1,), ((1,), ()), (0,)), (None, None, None)):
                self.refused(BadTape, tape, tape, *key)

    def test_what_is_no_key(self):
        for key in wrong_keys():
            self.raises(NoKey, "value", key, plain(), *key)
            self.raises(NoKey, "value", key, Lot(plain()), *key)
            self.raises(NoKey, "value", key, plain(), values=key[2], items=key[1], worths=key[0])
        mixed = Tape(WORLD, "nr", (), ("gives", ZERO))
        for values in ((), (0,), (0, 0), ("p", 0), (0, "c"), (0, "p", 0), [0, "p"], (0, ("p",)), (0, None), (Number(3, 0), "p")):
            self.raises(NoKey, "value", ((1,), ((), ()), values), mixed, (1,), ((), ()), values)


class Making(unittest.TestCase, Refusing):

    def test_one_to_twelve(self):
        for many in range(1, 13):
            tapes = tuple(plain(k % 3) for k in range(many))
            lot = Lot(*tapes)
            self.assertEqual((lot.tapes, len(lot)), (tapes, many))
            self.assertIs(lot.tapes.__class__, tuple)
            for k in range(many):
                self.assertIs(lot[k], tapes[k])
        self.raises(TooMany, "number", 12, Lot, *[plain()] * 13)
        self.raises(TooMany, "number", 12, Lot, *[plain()] * 30)

    def test_none(self):
        with self.assertRaises(Empty) as told:
            Lot()
        self.assertEqual(vars(told.exception), {})

    def test_what_is_no_tape_or_not_as_the_first_one(self):
        for value in no_tapes():
            if not isinstance(value, Tape) or value in (CALL, FAILS):
                self.refused(BadTape, value, Lot, value)
                self.refused(BadTape, value, Lot, value, value)
            for ahead in (1, 2, 11, 12, 15):
                self.refused(BadTape, value, Lot, *[plain()] * ahead, value)
                self.refused(BadTape, value, Lot, *[plain()] * ahead, value, None, OTHERS[0])
        first = plain()
        for other in OTHERS:
            self.refused(BadTape, first, Lot, other, first)

    def test_equal_worlds_are_one(self):
        self.assertEqual(len(Lot(plain(), plain(world=TWIN))), 2)

    def test_equality(self):
        one, other = plain(), only(1)
        self.assertTrue(Lot(one, other) == Lot(plain(world=TWIN), only(1)))
        self.assertFalse(Lot(one, other) != Lot(one, other))
        for tapes in ((one,), (other, one), (one, other, one), (one, one), (OTHERS[0],)):
            self.assertFalse(Lot(one, other) == Lot(*tapes))
            self.assertTrue(Lot(one, other) != Lot(*tapes))
        for value in any_values() + [(one, other), [one, other], one, WORLD]:
            self.assertFalse(Lot(one, other) == value)
            self.assertFalse(value == Lot(one, other))
        self.assertFalse(Lot(one) == one)

    def test_the_class_is_as_listed(self):
        self.assertEqual(Lot.__module__, "tapedonce.tapes")
        self.assertEqual([*inspect.signature(Lot.__call__).parameters], ["self", "worths", "items", "values"])
        for name in ("tapes", "__call__", "__len__", "__contains__", "__getitem__", "__setitem__", "__iadd__", "__eq__", "__or__"):
            self.assertIn(name, vars(Lot))


class Telling(unittest.TestCase, Refusing):

    def test_the_first_tape_that_is_not_off(self):
        tapes = [only(0, 1), only(1, 2), only(0, 2), plain(0), only(2, 2)]
        for many in range(1, 6):
            for chosen in itertools.permutations(tapes, many):
                lot = Lot(*chosen)
                for x in range(3):
                    found = [tape((1,), ((1,), ()), (x,)) for tape in chosen]
                    told = next((told for told in found if told is not None), None)
                    self.assertEqual(lot((1,), ((1,), ()), (x,)), told)

    def test_what_a_tape_that_is_off_did_is_not_there(self):
        off = Tape(WORLD, "n", (("put", "c", ("known", 2)), ("guard", ("false",), True)), ("gives", ZERO))
        reads = Tape(WORLD, "n", (), ("gives", ("cell", "c", 0)))
        self.assertEqual(Lot(off, reads)((1,), ((1,), ()), (0,)), (("gives", 1), (1,), ((1,), ())))
        self.assertIsNone(Lot(off)((1,), ((1,), ()), (0,)))
        self.assertEqual(Lot(reads)(values=(0,), items=((), ()), worths=(2,)), (("gives", 2), (2,), ((), ())))

    def test_tapes_made_by_chance(self):
        for seed in range(60):
            tapes = [TapeMaker(seed * 3 + k, WORLD, "n", {}).tape(seed % 4) for k in range(3)]
            lot = Lot(*tapes)
            for key in keys():
                found = [tape(*key) for tape in tapes]
                self.assertEqual(lot(*key), next((told for told in found if told is not None), None))

    def test_in(self):
        lot = Lot(plain(), only(1))
        for tape in (plain(), only(1), plain(world=TWIN)):
            self.assertIs(tape in lot, True)
        for value in no_tapes() + [only(2), plain(1)]:
            self.assertIs(value in lot, False)


class Changing(unittest.TestCase, Refusing):

    def set(self, lot, at, tape):
        lot[at] = tape

    def add(self, lot, tape):
        lot += tape

    def test_places(self):
        tapes = (plain(0), plain(1), plain(2))
        for at in range(3):
            lot = Lot(*tapes)
            lot[at] = only(1)
            self.assertEqual(lot.tapes, tapes[:at] + (only(1),) + tapes[at + 1:])
            self.assertEqual(lot[at], only(1))
            self.assertEqual(len(lot), 3)

    def test_places_that_are_none(self):
        for many in (1, 3, 12):
            tapes = (plain(),) * many
            lot = Lot(*tapes)
            for value in any_values() + [many, -1, -many, True, slice(0, 1), (0,), None]:
                if not (is_plain(value) and 0 <= value < many):
                    self.refused(BadPlace, value, lambda: lot[value])
                    self.refused(BadPlace, value, self.set, lot, value, plain(1))
                    self.refused(BadPlace, value, self.set, lot, value, None)
            self.assertEqual(lot.tapes, tapes)

    def test_tapes_that_cannot_stand_there(self):
        lot = Lot(plain(), only(1))
        alone = Lot(plain())
        for value in no_tapes():
            for at in (0, 1):
                self.refused(BadTape, value, self.set, lot, at, value)
            self.refused(BadTape, value, self.set, alone, 0, value)
            self.refused(BadTape, value, self.add, lot, value)
        self.assertEqual((lot.tapes, alone.tapes), ((plain(), only(1)), (plain(),)))

    def test_one_more_in_place(self):
        lot = first = Lot(plain())
        tapes = [plain()]
        for k in range(11):
            tapes.append(only(k % 3))
            lot += tapes[-1]
            self.assertIs(lot, first)
            self.assertEqual(first.tapes, tuple(tapes))
        self.raises(TooMany, "number", 12, self.add, lot, plain())
        for value in no_tapes():
            self.refused(BadTape, value, self.add, lot, value)
        self.assertEqual(first.tapes, tuple(tapes))

    def test_what_was_told_of_tapes_stays(self):
        lot = Lot(plain())
        ahead, other = lot.tapes, lot | plain(1)
        lot += only(1)
        lot[0] = only(2)
        self.assertEqual((ahead, other.tapes, lot.tapes), ((plain(),), (plain(), plain(1)), (only(2), only(1))))


class Both(unittest.TestCase, Refusing):
    """one | other, of Tapes and Lots."""

    def both(self, one, other):
        return one | other

    def test_tapes_and_lots(self):
        a, b, c = plain(), only(1), only(2)
        for one, other, tapes in (
            (a, b, (a, b)), (a, Lot(b, c), (a, b, c)), (Lot(a, b), c, (a, b, c)), (Lot(a), Lot(b, c), (a, b, c)), (a, a, (a, a)),
        ):
            found = one | other
            self.assertIs(found.__class__, Lot)
            self.assertEqual(found.tapes, tapes)
        lot = Lot(a)
        more = lot
        more |= b
        self.assertEqual((lot.tapes, more.tapes), ((a,), (a, b)))

    def test_twelve_and_more(self):
        for many in range(1, 13):
            one = Lot(*[plain()] * many)
            for others in range(1, 13):
                other = Lot(*[only(1)] * others)
                if many + others <= 12:
                    self.assertEqual(len(one | other), many + others)
                else:
                    self.raises(TooMany, "number", 12, self.both, one, other)
        self.raises(TooMany, "number", 12, self.both, plain(), Lot(*[plain()] * 12))
        self.raises(TooMany, "number", 12, self.both, Lot(*[plain()] * 12), plain())

    def test_tapes_with_calls(self):
        for one in (CALL, FAILS):
            for other in (plain(), CALL, None, OTHERS[0]):
                self.refused(BadTape, one, self.both, one, other)
        for other in (CALL, FAILS):
            self.refused(BadTape, other, self.both, plain(), other)
            self.refused(BadTape, other, self.both, Lot(*[plain()] * 12), other)

    def test_others(self):
        for other in [value for value in no_tapes() if not isinstance(value, Lot)] + [Lot(tape) for tape in OTHERS]:
            for one in (plain(), Lot(plain()), Lot(*[plain()] * 12)):
                self.refused(BadTape, other, self.both, one, other)


class Examples(unittest.TestCase):

    def test_a_lot_of_two(self):
        world = World(2, 1, (("c", 0),), ())
        one = Tape(world, "n", (("guard", ("less", ("arg", 0), ("cell", "c", 0)), True),), ("gives", ("known", 0)))
        other = Tape(world, "n", (), ("gives", ("arg", 0)))
        lot = one | other
        told = [len(lot), lot((1,), (), (0,)), lot((0,), (), (1,))]
        lot[0] = other
        found = [told, lot.tapes == (other, other)]
        self.assertEqual(found, [[2, (("gives", 0), (1,), ()), (("gives", 1), (0,), ())], True])


if __name__ == "__main__":
    unittest.main()
