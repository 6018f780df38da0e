"""Section 8, its second part: tapes, what may stand in them, and equality."""

import inspect
import itertools
import unittest

from tapedonce.errors import BadEnd, BadKinds, BadSteps
from tapedonce.plans import Plan
from tapedonce.tapes import Tape
from tapedonce.worlds import World
from tests.making import Refusing
from tests.tapemaker import TapeMaker
from tests.validity import Ahead, good_kinds
from tests.values import any_values

WORLD = World(3, 2, (("c", 1), ("d", 0)), (("p", (1,)), ("q", ())))
BARE = World(2, 1, (), ())
KINDS = "nrn"
GIVES = ("gives", ("known", 0))

# Each node, condition, step and end once, at a place with three writes ahead and calls at 0 and 2.
AHEAD = (("call", "w", ()), ("put", "c", ("known", 0)), ("call", "w", ()))
NODES = (
    ("known", 0), ("known", 2), ("arg", 0), ("arg", 2), ("cell", "c", 0), ("cell", "d", 3), ("item", ("arg", 1), ("arg", 0), 0),
    ("item", ("row", "p"), ("known", 1), 3), ("do", "+", ("arg", 0), ("arg", 2)), ("do", "-", ("known", 1), ("known", 1)),
    ("do", "*", ("cell", "c", 1), ("arg", 0)), ("do", "//", ("arg", 0), ("known", 0)), ("minus", ("arg", 2)), ("result", 0),
    ("result", 2), ("minus", ("minus", ("known", 1))),
)
CONDITIONS = (
    ("equal", ("arg", 0), ("known", 1)), ("less", ("cell", "c", 2), ("arg", 2)), ("has", ("arg", 1), ("arg", 0), 3),
    ("has", ("row", "q"), ("known", 0), 0), ("same", ("arg", 1), ("row", "p")), ("same", ("row", "p"), ("row", "p")),
    ("and", ("true",), ("false",)), ("or", ("equal", ("arg", 0), ("arg", 0)), ("true",)),
    ("unlike", ("less", ("known", 0), ("known", 1)), ("same", ("arg", 1), ("arg", 1))), ("true",), ("false",),
)
STEPS = tuple(("fine", node) for node in NODES) + tuple(("guard", condition, True) for condition in CONDITIONS) + (
    ("guard", ("true",), False), ("set", ("arg", 1), ("known", 0), ("arg", 0)), ("set", ("row", "q"), ("arg", 2), ("known", 1)),
    ("push", ("arg", 1), ("arg", 0)), ("push", ("row", "p"), ("known", 2)), ("put", "c", ("arg", 0)), ("put", "d", ("result", 0)),
    ("call", "w", ()), ("call", "abcdefgh", (("arg", 0), ("arg", 1), ("row", "p"))), ("call", "z", (("known", 1),)),
    ("fails", ("do", "//", ("known", 1), ("arg", 0)), "zero"), ("fails", ("known", 1), "abcdefgh"),
    ("fails", ("place", ("arg", 1), ("arg", 0), 3), "index"), ("fails", ("room", ("row", "q"), 0), "full"),
    ("fails", ("call", "w", (("arg", 1), ("arg", 2))), "no"), ("fails", ("call", "x", ()), "a"),
)
ENDS = tuple(("gives", node) for node in NODES) + (
    ("faults", ("a",)), ("faults", ("abcdefgh", "b")), ("faults", ("zero", "zero", "zero")),
)


def paths(thing, at=()):
    """The paths to all parts of a nested tuple."""
    yield at
    if isinstance(thing, tuple):
        for k, part in enumerate(thing):
            yield from paths(part, at + (k,))


def replaced(thing, path, make):
    """A nested tuple with what make makes of one part in its place."""
    if not path:
        return make(thing)
    at = path[0]
    return thing[:at] + (replaced(thing[at], path[1:], make),) + thing[at + 1:]


def others(part):
    """What may stand in the place of a part, right there or not."""
    found = [None, True, False, -1, 0, 1, 2, 3, 4, "", "a", "c", "p", b"a", (), [], ("known", 0), ("arg", 1), ("true",)]
    found += [("row", "p"), ("result", 1), ("result", 3), ("cell", "p", 0), ("row", "c"), ("cell", "c", 4), ("arg", 3)]
    if isinstance(part, tuple):
        found += [list(part), part + (0,), part[:-1], part + part[-1:], (part,), part[1:]]
    if isinstance(part, str):
        found += [part.upper(), part + "x", [part], part.encode(), "abcdefghi"]
    if isinstance(part, int) and not isinstance(part, bool):
        found += [part + 1, part - 1, bool(part), str(part), (part,)]
    return found


def deep(depth):
    """A node so deep."""
    node = ("arg", 0)
    for k in range(depth - 1):
        node = (("minus", node), ("do", "+", ("known", 0), node), ("item", ("row", "p"), node, 0))[k % 3]
    return node


def deep_condition(depth):
    """A condition so deep."""
    condition = ("true",)
    for k in range(depth - 1):
        condition = (("and", condition, ("false",)), ("or", ("true",), condition), ("unlike", condition, condition))[k % 3]
    return condition


class Checking(unittest.TestCase, Refusing):

    def check(self, world, kinds, steps, end):
        """A tape is made, or refused, as the tests' own words have it."""
        ahead = Ahead(world, kinds if good_kinds(world, kinds) else "")
        if not good_kinds(world, kinds):
            self.refused(BadKinds, kinds, Tape, world, kinds, steps, end)
        elif not ahead.steps(steps):
            self.refused(BadSteps, steps, Tape, world, kinds, steps, end)
        elif not ahead.end(end):
            self.refused(BadEnd, end, Tape, world, kinds, steps, end)
        else:
            tape = Tape(world, kinds, steps, end)
            self.assertIs(tape.world, world)
            self.assertEqual((tape.kinds, tape.steps, tape.end), (kinds, steps, end))
            return True
        return False


class Parts(Checking):

    def test_each_part_that_is_right(self):
        for step in STEPS:
            with self.subTest(step=step):
                self.assertTrue(self.check(WORLD, KINDS, AHEAD + (step,), GIVES))
        for end in ENDS:
            with self.subTest(end=end):
                self.assertTrue(self.check(WORLD, KINDS, AHEAD, end))
        by_name = Tape(end=ENDS[0], steps=STEPS[:1], kinds=KINDS, world=WORLD)
        self.assertEqual(by_name, Tape(WORLD, KINDS, STEPS[:1], ENDS[0]))

    def test_one_thing_otherwise_at_any_depth(self):
        right = 0
        for step in STEPS:
            for path in paths(step):
                part = step
                for at in path:
                    part = part[at]
                for other in others(part):
                    changed = replaced(step, path, lambda _: other)
                    right += self.check(WORLD, KINDS, AHEAD + (changed,), GIVES)
        self.assertGreater(right, 300)

    def test_one_thing_otherwise_in_the_end(self):
        right = 0
        for end in ENDS:
            for path in paths(end):
                part = end
                for at in path:
                    part = part[at]
                for other in others(part):
                    right += self.check(WORLD, KINDS, AHEAD, replaced(end, path, lambda _: other))
        self.assertGreater(right, 100)

    def test_words_of_other_tables(self):
        words = "known arg cell item do minus result row equal less has same and or unlike true false guard fine set push"
        words += " put call fails place room gives faults all not None + //"
        for step in STEPS:
            for path in paths(step):
                part = step
                for at in path:
                    part = part[at]
                if isinstance(part, str):
                    for word in words.split():
                        self.check(WORLD, KINDS, AHEAD + (replaced(step, path, lambda _: word),), GIVES)

    def test_where_there_are_no_cells_and_no_rows(self):
        cells, rows = World(3, 2, WORLD.cells, ()), World(3, 2, (), WORLD.rows)
        for world, kinds in ((BARE, "nnn"), (cells, "nnn"), (rows, "nrn"), (WORLD, ""), (WORLD, "rrr")):
            for step, end in itertools.zip_longest(STEPS, ENDS, fillvalue=GIVES):
                steps = () if step == GIVES else (step,)
                self.check(world, kinds, steps, GIVES)
                self.check(world, kinds, (), end)

    def test_numbers_below_each_size(self):
        for size in (2, 3, 4):
            for n in range(-1, 6):
                self.assertEqual(self.check(World(size, 1, (), ()), "", (), ("gives", ("known", n))), 0 <= n < size)


class Bounds(Checking):

    def test_kinds(self):
        for many in range(7):
            for kinds in map("".join, itertools.product("nr", repeat=many)):
                self.assertTrue(self.check(WORLD, kinds, (), GIVES))
        self.assertTrue(self.check(BARE, "nnnnnn", (), GIVES))
        wrong = any_values() + ["nnnnnnn", "nrnrnrn", "N", "x", "n ", " ", "nx", b"n", ("n",), ["n"], "\u0578", "a"]
        for value in wrong:
            if value != "":
                self.refused(BadKinds, value, Tape, WORLD, value, (), GIVES)
                self.refused(BadKinds, value, Tape, end=GIVES, steps=(), kinds=value, world=WORLD)
        for value in ("r", "nr", "nnnnnr"):
            self.refused(BadKinds, value, Tape, BARE, value, (), GIVES)

    def test_any_steps_and_ends(self):
        for value in any_values():
            if value != ():
                self.refused(BadSteps, value, Tape, WORLD, KINDS, value, GIVES)
                self.refused(BadSteps, value, Tape, end=GIVES, steps=value, kinds=KINDS, world=WORLD)
            self.refused(BadEnd, value, Tape, WORLD, KINDS, (), value)
            wrong = (value,)
            self.refused(BadSteps, wrong, Tape, WORLD, KINDS, wrong, GIVES)
        steps = list(AHEAD)
        self.refused(BadSteps, steps, Tape, WORLD, KINDS, steps, GIVES)

    def test_kinds_are_told_ahead_of_steps_ahead_of_the_end(self):
        wrong_kinds, wrong_steps, wrong_end = ("nnnnnnn", None, 3), ([], None, (0,), (("fine",),)), (None, [], ("gives",))
        for kinds, steps, end in itertools.product(wrong_kinds, wrong_steps + ((),), wrong_end + (GIVES,)):
            self.refused(BadKinds, kinds, Tape, WORLD, kinds, steps, end)
        for steps, end in itertools.product(wrong_steps, wrong_end + (GIVES,)):
            self.refused(BadSteps, steps, Tape, WORLD, "n", steps, end)

    def test_sixty_steps_and_one_more(self):
        for step in (("put", "c", ("known", 0)), ("fine", ("arg", 0)), ("call", "w", ())):
            self.assertTrue(self.check(WORLD, KINDS, (step,) * 60, GIVES))
            self.assertFalse(self.check(WORLD, KINDS, (step,) * 61, GIVES))

    def test_times_and_results(self):
        writes = (("set", ("row", "p"), ("known", 0), ("known", 0)), ("push", ("row", "p"), ("known", 0)))
        writes += (("put", "c", ("known", 0)), ("call", "w", ()), ("fails", ("call", "w", ()), "a"))
        others = (("guard", ("true",), True), ("fine", ("known", 0)), ("fails", ("known", 0), "a"))
        others += (("fails", ("place", ("row", "p"), ("known", 0), 0), "a"), ("fails", ("room", ("row", "p"), 0), "a"))
        for step in writes + others:
            for many in (1, 2, 60):
                ahead, most = (step,) * many, many * (step in writes)
                for time in (most - 1, most, most + 1, True, None, "0"):
                    node = ("cell", "c", time)
                    right = type(time) is int and 0 <= time <= most
                    self.assertEqual(self.check(WORLD, KINDS, ahead, ("gives", node)), right)
                    if many < 60:
                        self.assertEqual(self.check(WORLD, KINDS, ahead + (("fine", node),), GIVES), right)
        for at in range(-1, 5):
            self.assertEqual(self.check(WORLD, KINDS, AHEAD, ("gives", ("result", at))), at in (0, 2))
            steps = AHEAD[:2] + (("fine", ("result", at)),) + AHEAD[2:]
            self.assertEqual(self.check(WORLD, KINDS, steps, GIVES), at == 0)
        own = (("call", "w", (("result", 0),)),)
        self.assertFalse(self.check(WORLD, KINDS, own, GIVES))
        own = (("fails", ("call", "w", (("cell", "c", 1),)), "a"),)
        self.assertFalse(self.check(WORLD, KINDS, own, GIVES))
        self.assertFalse(self.check(WORLD, KINDS, (("fails", ("call", "w", ()), "a"),), ("gives", ("result", 0))))

    def test_eight_deep_and_nine(self):
        for depth in range(1, 12):
            node, condition, right = deep(depth), deep_condition(depth), depth <= 8
            steps = [("fine", node), ("put", "c", node), ("set", ("row", "p"), node, ("known", 0)), ("push", ("row", "p"), node)]
            steps += [("set", ("row", "p"), ("known", 0), node), ("call", "w", (("known", 0), node)), ("fails", node, "zero")]
            steps += [("fails", ("call", "w", (node,)), "zero"), ("fails", ("place", ("row", "p"), node, 0), "index")]
            steps += [("guard", condition, True)]
            for step in steps:
                self.assertEqual(self.check(WORLD, KINDS, (step,), GIVES), right)
            self.assertEqual(self.check(WORLD, KINDS, (), ("gives", node)), right)
            for within in (("equal", node, ("known", 0)), ("less", ("known", 0), node), ("has", ("row", "p"), node, 0)):
                self.assertEqual(self.check(WORLD, KINDS, (("guard", within, True),), GIVES), depth < 8)
                within = ("and", ("true",), ("unlike", within, ("true",)))
                self.assertEqual(self.check(WORLD, KINDS, (("guard", within, True),), GIVES), depth < 6)

    def test_a_condition_same_is_one_deep(self):
        lists = (("row", "p"), ("row", "q"), ("arg", KINDS.index("r")))
        for one in lists:
            for other in lists:
                for word, depth in ((word, depth) for word in ("and", "or", "unlike") for depth in range(1, 11)):
                    left = right = ("same", one, other)
                    for _ in range(depth - 1):
                        left, right = (word, left, ("true",)), (word, ("false",), right)
                    for condition in (left, right):
                        self.assertEqual(self.check(WORLD, KINDS, (("guard", condition, True),), GIVES), depth <= 8)
        wrong = ("same", ("row", "p"), ("row", "c"))
        for _ in range(7):
            self.assertFalse(self.check(WORLD, KINDS, (("guard", wrong, True),), GIVES))
            wrong = ("and", wrong, ("true",))

    def test_what_is_much_too_deep_is_refused_soon(self):
        node, condition = ("arg", 0), ("true",)
        for _ in range(29):
            node, condition = ("do", "+", node, node), ("and", condition, condition)
        for steps in ((("fine", node),), (("guard", condition, True),), (("guard", ("equal", node, node), True),)):
            self.refused(BadSteps, steps, Tape, WORLD, KINDS, steps, GIVES)

    def test_values_of_a_call_and_words(self):
        for many in range(6):
            for value in (("known", 0), ("row", "p"), ("arg", 1)):
                self.assertEqual(self.check(WORLD, KINDS, (("call", "w", (value,) * many),), GIVES), many <= 3)
            self.assertEqual(self.check(WORLD, KINDS, (), ("faults", ("a",) * many)), 1 <= many <= 3)
        for word in ("a", "z", "abcdefgh", "abcdefghi", "", "A", "a1", "a b", "\u00e4", 1, None, b"a", ("a",), True):
            right = word in ("a", "z", "abcdefgh")
            self.assertEqual(self.check(WORLD, KINDS, (), ("faults", (word,))), right)
            self.assertEqual(self.check(WORLD, KINDS, (), ("faults", ("a", "b", word))), right)
            self.assertEqual(self.check(WORLD, KINDS, (("fails", ("known", 0), word),), GIVES), right)
            self.assertEqual(self.check(WORLD, KINDS, (("call", word, ()),), GIVES), right)
            self.assertEqual(self.check(WORLD, KINDS, (("fails", ("call", word, ()), "a"),), GIVES), right)

    def test_tapes_made_by_chance(self):
        for seed in range(300):
            works = {"v": "n", "w": "rn"} if seed % 2 else {}
            tape = TapeMaker(seed, WORLD, ("", "n", "rnr", "nnrrnn")[seed % 4], works).tape(seed % 11)
            self.assertTrue(self.check(tape.world, tape.kinds, tape.steps, tape.end))


class Equality(unittest.TestCase):

    def test_equal_by_all_four(self):
        world = World(3, 2, WORLD.cells, WORLD.rows)
        base = (WORLD, KINDS, STEPS[:1], ENDS[0])
        self.assertTrue(Tape(*base) == Tape(world, *base[1:]))
        self.assertFalse(Tape(*base) != Tape(world, *base[1:]))
        others = [[World(4, 2, WORLD.cells, WORLD.rows), World(3, 2, WORLD.cells, WORLD.rows, ("c",))], ["nrr", "nrnn", "n"]]
        others += [[(), STEPS[1:2], STEPS[:1] * 2], list(ENDS[1:4]) + [("faults", ("a",))]]
        for at, parts in enumerate(others):
            for part in parts:
                changed = base[:at] + (part,) + base[at + 1:]
                self.assertFalse(Tape(*base) == Tape(*changed))
                self.assertTrue(Tape(*base) != Tape(*changed))

    def test_equal_nothing_else(self):
        tape = Tape(WORLD, KINDS, (), GIVES)
        for other in any_values() + [(WORLD, KINDS, (), GIVES), ((), GIVES), WORLD, Plan(), tape | tape]:
            self.assertFalse(tape == other)
            self.assertFalse(other == tape)
            self.assertTrue(tape != other)

    def test_the_class_is_as_listed(self):
        self.assertEqual(Tape.__module__, "tapedonce.tapes")
        self.assertEqual([*inspect.signature(Tape).parameters], ["world", "kinds", "steps", "end"])
        self.assertEqual([*inspect.signature(Tape.__call__).parameters], ["self", "worths", "items", "values"])
        self.assertEqual([*inspect.signature(Tape.read).parameters], ["world", "data"])
        for name in ("world", "kinds", "steps", "end", "written", "read", "__eq__", "__or__", "__call__"):
            self.assertIn(name, vars(Tape))


if __name__ == "__main__":
    unittest.main()
