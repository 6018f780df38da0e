"""Section 14: checks of tapes, which of them are needless, and the fewest."""

import inspect
import itertools
import random
import unittest

from tapedonce.checks import least_checks, needless, shows_least_checks, with_checks
from tapedonce.doings import doing_of
from tapedonce.errors import BadChecks, BadKinds, BadTape, TooMany
from tapedonce.tapes import Lot, Tape
from tapedonce.worlds import World
from tests.keysets import keys_of, told_by
from tests.making import Refusing
from tests.tapemaker import TapeMaker
from tests.test_doings import WIDE, WORLDS, drawn_kinds, few_keys
from tests.values import any_values

BARE = World(2, 1, (), ())
X, ZERO, ONE = ("arg", 0), ("known", 0), ("known", 1)
GIVES = ("gives", ZERO)


def checks_of(tape):
    return [at for at, step in enumerate(tape.steps) if step[0] in ("guard", "fine")]


def without(tape, numbers):
    """The tape with some checks alone, by the words of the document: for tapes without results."""
    steps = tuple(step for at, step in enumerate(tape.steps) if step[0] not in ("guard", "fine") or at in numbers)
    return Tape(tape.world, tape.kinds, steps, tape.end)


def subsets(numbers):
    return [chosen for many in range(len(numbers) + 1) for chosen in itertools.combinations(numbers, many)]


def table(tape):
    return [told_by(tape, key) for key in keys_of(tape.world, tape.kinds)]


def drawn_tapes(seeds, most=6):
    """Tapes without calls, with some checks more."""
    for seed in seeds:
        world = WORLDS[seed % 4]
        kinds = drawn_kinds(seed, world, 2)
        if not few_keys(world, kinds) or len(keys_of(world, kinds)) > 60:
            continue
        maker, chance = TapeMaker(seed, world, kinds, {}), random.Random(seed)
        plain = maker.tape(seed % 4)
        steps = list(plain.steps)
        for _ in range(chance.randint(0, 4)):
            maker.writes = 0
            check = ("guard", maker.condition(1), chance.randrange(2) == 0) if chance.randrange(4) else ("fine", maker.node(2))
            # A check that names no later time may stand anywhere.
            steps.insert(chance.randint(0, len(steps)), check)
        tape = Tape(world, kinds, tuple(steps), plain.end)
        if len(checks_of(tape)) <= most:
            yield tape


class Without(unittest.TestCase, Refusing):

    def test_all_choices(self):
        for tape in drawn_tapes(range(40)):
            for numbers in subsets(checks_of(tape)):
                found = with_checks(tape, numbers)
                self.assertEqual(found, without(tape, numbers))
                self.assertEqual(with_checks(numbers=numbers, tape=tape), found)
            self.assertEqual(with_checks(tape, tuple(checks_of(tape))), tape)

    def test_numbers_of_steps_follow(self):
        check, call = ("guard", ("equal", X, ZERO), True), ("call", "w", (X,))
        world = World(2, 1, (("c", 0),), (("p", ()),))
        where = ("result", 1)
        steps = (
            check, call, ("fine", ("do", "+", where, X)), ("call", "w", (where, ("arg", 1))), check, ("put", "c", ("minus", ("result", 3))),
            ("set", ("row", "p"), where, ("result", 3)), ("push", ("arg", 1), ("item", ("row", "p"), where, 2)), ("guard", ("and", ("less", where, X), ("has", ("row", "p"), ("result", 3), 5)), False),
            ("fails", ("call", "w", (("result", 3), ("row", "p"))), "no"), ("fails", ("do", "//", where, ("result", 3)), "zero"), ("fails", ("place", ("arg", 1), ("result", 3), 1), "index"),
            ("fails", ("room", ("arg", 1), 6), "full"), ("guard", ("same", ("arg", 1), ("row", "p")), True), ("fine", ("cell", "c", 5)),
        )
        tape = Tape(world, "nr", steps, ("gives", ("do", "-", where, ("result", 3))))
        none = with_checks(tape, ())
        self.assertEqual(none.steps, (
            call, ("call", "w", (("result", 0), ("arg", 1))), ("put", "c", ("minus", ("result", 1))), ("set", ("row", "p"), ("result", 0), ("result", 1)),
            ("push", ("arg", 1), ("item", ("row", "p"), ("result", 0), 2)), ("fails", ("call", "w", (("result", 1), ("row", "p"))), "no"),
            ("fails", ("do", "//", ("result", 0), ("result", 1)), "zero"), ("fails", ("place", ("arg", 1), ("result", 1), 1), "index"), ("fails", ("room", ("arg", 1), 6), "full"),
        ))
        self.assertEqual((none.end, none.kinds, none.world), (("gives", ("do", "-", ("result", 0), ("result", 1))), "nr", world))
        some = with_checks(tape, (2, 4, 8, 13))
        self.assertEqual(some.steps[:4], (call, ("fine", ("do", "+", ("result", 0), X)), ("call", "w", (("result", 0), ("arg", 1))), check))
        self.assertEqual(some.steps[7], ("guard", ("and", ("less", ("result", 0), X), ("has", ("row", "p"), ("result", 2), 5)), False))
        self.assertEqual(some.steps[-1], ("guard", ("same", ("arg", 1), ("row", "p")), True))
        self.assertEqual(some.end, ("gives", ("do", "-", ("result", 0), ("result", 2))))
        self.assertEqual(with_checks(tape, (0, 2, 4, 8, 13, 14)), tape)
        faults = Tape(world, "nr", steps[:2], ("faults", ("no", "zero")))
        self.assertEqual(with_checks(faults, ()), Tape(world, "nr", (call,), ("faults", ("no", "zero"))))

    def test_what_is_no_tape(self):
        tape = Tape(BARE, "", (), GIVES)
        for value in any_values() + [Lot(tape), Tape, (tape,)]:
            self.refused(BadTape, value, with_checks, value, ())
            self.refused(BadTape, value, with_checks, value, None)

    def test_what_are_no_checks(self):
        check = ("fine", X)
        tape = Tape(World(2, 1, (("c", 0),), ()), "n", (check, ("put", "c", X), check, check), GIVES)
        wrong = [value for value in any_values() if value not in ((), (0,), (2,))]
        wrong += [(1,), (0, 1), (4,), (-1,), (2, 0), (0, 0), (True,), (False,), (0, 2, 4), (0, 2, 3, 3), [0], [0, 2], (0, None), ("0",), {0: 1}, (0, (2,))]
        for value in wrong:
            self.refused(BadChecks, value, with_checks, tape, value)
        for numbers in subsets((0, 2, 3)):
            self.assertEqual(len(with_checks(tape, numbers).steps), len(numbers) + 1)


class Needless(unittest.TestCase, Refusing):

    def test_by_trying_all(self):
        seen = {True: 0, False: 0}
        for tape in drawn_tapes(range(300)):
            numbers, whole = checks_of(tape), table(tape)
            expected = [at for at in numbers if table(without(tape, [other for other in numbers if other != at])) == whole]
            self.assertEqual(needless(tape), tuple(expected))
            for at in numbers:
                seen[at in expected] += 1
        self.assertGreater(min(seen.values()), 30)

    def test_many_checks(self):
        steps = tuple(("guard", ("equal", ("arg", at), ZERO), True) for at in range(4)) * 15
        tape = Tape(BARE, "nnnn", steps, GIVES)
        self.assertEqual(needless(tape=tape), tuple(range(60)))
        tape = Tape(BARE, "nnnn", steps[:5], GIVES)
        self.assertEqual(needless(tape), (0, 4))

    def test_a_check_behind_what_is_off_always(self):
        never = ("fails", ("known", 0), "zero")
        tape = Tape(BARE, "n", (("guard", ("equal", X, ZERO), True), never, ("guard", ("equal", X, ONE), True)), GIVES)
        self.assertEqual(needless(tape), (0, 2))
        self.assertEqual(least_checks(tape), ((), ()))


class Least(unittest.TestCase, Refusing):

    def test_by_trying_all(self):
        many = set()
        for tape in drawn_tapes(range(260)):
            found, whole, keys = least_checks(tape), table(tape), keys_of(tape.world, tape.kinds)
            self.assertEqual((found.__class__, len(found), found[0].__class__, found[1].__class__), (tuple, 2, tuple, tuple))
            ahead = []
            for numbers in subsets(checks_of(tape)):
                otherwise = [key for key, one, other in zip(keys, whole, table(without(tape, numbers)), strict=True) if one != other]
                if not otherwise:
                    break
                ahead.append((numbers, otherwise))
            self.assertEqual(found[0], numbers)
            self.assertEqual([reason[0] for reason in found[1]], [numbers for numbers, _ in ahead])
            for (_, key), (_, otherwise) in zip(found[1], ahead):
                self.assertIn(key, otherwise)
            self.check_shown(tape, found, ahead, keys)
            many.add((len(checks_of(tape)), len(numbers)))
        self.assertGreater(len(many), 9)
        self.assertIn(2, [least for _, least in many])

    def check_shown(self, tape, found, ahead, keys):
        self.assertIs(shows_least_checks(tape, found), True)
        for at, (numbers, otherwise) in enumerate(ahead[:3]):
            for key in keys:
                reasons = found[1][:at] + ((numbers, key),) + found[1][at + 1:]
                self.assertIs(shows_least_checks(tape, (found[0], reasons)), key in otherwise)

    def test_meaning_stays(self):
        for tape in drawn_tapes(range(300, 380)):
            self.assertEqual(doing_of(with_checks(tape, least_checks(tape)[0])), doing_of(tape))

    def test_six_checks_and_seven(self):
        check = ("guard", ("equal", X, ZERO), True)
        tape = Tape(BARE, "n", (check,) * 6, GIVES)
        self.assertEqual(least_checks(tape=tape), ((0,), (((), ((), (), (1,))),)))
        for kinds, world in (("n", BARE), ("n", WIDE), ("nnnn", WIDE)):
            tape = Tape(world, kinds, (check,) * 7, GIVES)
            self.raises(TooMany, "number", 6, least_checks, tape)
            self.raises(TooMany, "number", 6, shows_least_checks, tape, None)

    def test_all_of_many_are_wanted(self):
        steps = tuple(("guard", ("equal", ("arg", at), ZERO), True) for at in (0, 1, 2, 3, 0))
        tape = Tape(BARE, "nnnn", steps, GIVES)
        found = least_checks(tape)
        ahead = list(itertools.takewhile(lambda numbers: numbers != (0, 1, 2, 3), subsets(range(5))))
        self.assertEqual((found[0], [numbers for numbers, _ in found[1]]), ((0, 1, 2, 3), ahead))
        self.assertEqual(len(ahead), 26)
        self.assertTrue(shows_least_checks(tape, found))

    def test_what_is_no_value(self):
        checks = tuple(("guard", ("equal", ("arg", at), ZERO), True) for at in (0, 1, 0))
        tape = Tape(BARE, "nn", checks, GIVES)
        found = least_checks(tape)
        self.assertEqual((found[0], [numbers for numbers, _ in found[1]]), ((0, 1), [(), (0,), (1,), (2,)]))
        numbers, reasons = found
        wrong = any_values() + [list(found), found[:1], found + ((),), found[::-1], (None, reasons), (list(numbers), reasons)]
        wrong += [(value, reasons) for value in any_values() + [(1, 2), (0, 2), (0, 1, 2), (1, 0), (False, True)]]
        wrong += [(numbers, value) for value in any_values() + [list(reasons), reasons[:-1], reasons[::-1], reasons + reasons[:1], reasons + ((numbers, reasons[0][1]),)]]
        for at, (tried, key) in enumerate(reasons):
            rest = [list(reasons[at]), (tried,), (tried, key, ()), (key, tried), (list(tried), key), ((9,), key)]
            rest += [(tried, value) for value in any_values() + [list(key), key[:2], ((), (), (0, 2)), ((), (), [0, 1]), ((), (), (0, True)), ((), (), (0, 0)), ((), (), (0,))]]
            wrong += [(numbers, reasons[:at] + (row,) + reasons[at + 1:]) for row in rest]
        for value in wrong:
            self.assertIs(shows_least_checks(tape, value), False)
        self.assertIs(shows_least_checks(value=found, tape=tape), True)


class Refused(unittest.TestCase, Refusing):

    functions = (needless, least_checks, lambda tape: shows_least_checks(tape, None))

    def test_what_is_no_tape(self):
        tape = Tape(BARE, "", (), GIVES)
        check = ("guard", ("equal", X, ZERO), True)
        call = Tape(BARE, "nnnnnn", (("call", "w", ()),) + (check,) * 7, GIVES)
        fails = Tape(BARE, "n", (("fine", X), ("fails", ("call", "w", ()), "a")), GIVES)
        for function in self.functions:
            for value in any_values() + [Lot(tape), Tape, (tape,), call, fails]:
                self.refused(BadTape, value, function, value)

    def test_too_many_letters_and_keys(self):
        check = ("guard", ("equal", X, ZERO), True)
        for function in self.functions:
            for kinds in ("nnnnn", "nnnnnn"):
                self.refused(BadKinds, kinds, function, Tape(WIDE, kinds, (check,) * 7, GIVES))
            self.raises(TooMany, "number", 1000, function, Tape(WIDE, "n", (check,), GIVES))
            self.raises(TooMany, "number", 1000, function, Tape(WIDE, "n", (), GIVES))
        self.raises(TooMany, "number", 1000, needless, Tape(WIDE, "n", (check,) * 7, GIVES))
        self.assertEqual(needless(Tape(WIDE, "", (("guard", ("true",), True),), GIVES)), (0,))

    def test_the_functions_are_as_listed(self):
        listed = {with_checks: ["tape", "numbers"], needless: ["tape"], least_checks: ["tape"], shows_least_checks: ["tape", "value"]}
        for function, names in listed.items():
            self.assertEqual(function.__module__, "tapedonce.checks")
            self.assertEqual([*inspect.signature(function).parameters], names)


class Examples(unittest.TestCase):

    def test_two_guards_alike(self):
        guard = ("guard", ("equal", ("arg", 0), ("known", 0)), True)
        tape = Tape(World(2, 1, (), ()), "n", (guard, guard), ("gives", ("known", 1)))
        self.assertEqual([needless(tape), least_checks(tape)[0], least_checks(tape)[1][0][0]], [(0, 1), (0,), ()])


if __name__ == "__main__":
    unittest.main()
