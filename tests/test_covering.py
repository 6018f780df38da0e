"""Section 14: the fewest tapes of a work."""

import inspect
import itertools
import unittest

from tapedonce.covering import least_lot, shows_least_lot
from tapedonce.doings import doing_of, doing_plainly
from tapedonce.errors import BadKinds, NoTape, TooMany
from tapedonce.plans import Plan
from tapedonce.tapes import Lot, Tape
from tapedonce.worlds import World
from tests.keysets import keys_of, plain_table, told_by
from tests.making import Refusing
from tests.reckoning import Field, taping
from tests.scripts import GUARDS, Maker, work_of
from tests.test_doings import WIDE, WORLDS, drawn_kinds
from tests.values import any_values

BARE = World(2, 1, (), ())


def reckoned_tapes(world, kinds, script, plan):
    """All tapes that taping runs write at any key, by their texts; or the first key without one."""
    texts = []
    for key in keys_of(world, kinds):
        field = Field(world, {"w": script}, {"w": kinds}, 1)
        field.lay(key[:2])
        text = taping(field, plan, "w", key[2], 1)[1]
        if text is None:
            return key
        if text not in texts:
            texts.append(text)
    return [Tape(world, kinds, *text) for text in sorted(texts)]


def reckoned_lots(tapes, plain):
    """All tuples of tapes in sequence, each with the keys at which its lot tells otherwise; up to the first without."""
    tables = {at: [told_by(tape, row[:3]) for row in plain] for at, tape in enumerate(tapes)}
    for many in range(1, len(tapes) + 1):
        for numbers in itertools.permutations(range(len(tapes)), many):
            keys = []
            for k, row in enumerate(plain):
                told = next((tables[at][k] for at in numbers if tables[at][k] is not None), None)
                if told != row[3]:
                    keys.append(row[:3])
            yield tuple(tapes[at] for at in numbers), keys
            if not keys:
                return


def without_calls(part):
    """A script in which nothing is called."""
    if isinstance(part, tuple) and part and part[0] == "call":
        return ("int", 0)
    return tuple(without_calls(one) for one in part) if isinstance(part, tuple) else part


def drawn_works(seeds):
    """A world, kinds, a script that calls no work, and a plan."""
    for seed in seeds:
        world = WORLDS[seed % 4]
        kinds = ("n", "nn", "rn" if world.rows else "n", "")[seed // 4 % 4]
        if len(keys_of(world, kinds)) > 60:
            continue
        maker = Maker(seed, world.size, [name for name, _ in world.cells], [name for name, _ in world.rows], {"w": kinds})
        script = without_calls(maker.script("w", 3))
        guards = tuple(name for k, name in enumerate(GUARDS) if seed // 5 % (k + 2))
        yield world, kinds, script, Plan(guards, known=seed % 5 == 0, held=seed % 2 == 0, own=("x",) if seed % 7 == 0 else ())


class Searched(unittest.TestCase, Refusing):

    def test_by_trying_all(self):
        seen = {"lot": 0, "none": 0, "many": 0, "no tape": 0}
        sizes = set()
        for world, kinds, script, plan in drawn_works(range(320)):
            work, tapes = work_of(world.size, script), reckoned_tapes(world, kinds, script, plan)
            if isinstance(tapes, tuple):
                seen["no tape"] += 1
                self.raises(NoTape, "value", tapes, least_lot, world, kinds, work, plan)
                self.raises(NoTape, "value", tapes, shows_least_lot, world, kinds, work, plan, None)
            elif len(tapes) > 5:
                seen["many"] += 1
                self.raises(TooMany, "number", 5, least_lot, world, kinds, work, plan)
                self.raises(TooMany, "number", 5, shows_least_lot, world, kinds, work, plan, None)
            else:
                found = least_lot(plan=plan, work=work, kinds=kinds, world=world)
                seen[found[0]] += 1
                self.check(world, kinds, script, plan, tapes, found)
                if found[0] == "lot":
                    sizes.add((len(tapes), len(found[1])))
        self.assertGreater(min(seen[word] for word in ("lot", "none", "many")), 8, seen)
        self.assertGreater(len(sizes), 6, sizes)

    def check(self, world, kinds, script, plan, tapes, found):
        plain, work = plain_table(world, kinds, script), work_of(world.size, script)
        tried = list(reckoned_lots(tapes, plain))
        ahead = [pair for pair in tried if pair[1]]
        if len(ahead) < len(tried):
            self.assertEqual((found[0], len(found), found[1]), ("lot", 3, tried[-1][0]))
            self.assertIs(found[1].__class__, tuple)
            self.assertEqual(doing_of(Lot(*found[1])), doing_plainly(world, kinds, work))
        else:
            self.assertEqual((found[0], len(found)), ("none", 2))
        self.assertIs(found[-1].__class__, tuple)
        self.assertEqual([reason[0] for reason in found[-1]], [chosen for chosen, _ in ahead])
        for (_, key), (_, keys) in zip(found[-1], ahead, strict=True):
            self.assertIn(key, keys)
        self.assertIs(shows_least_lot(world, kinds, work, plan, found), True)
        for at, (chosen, keys) in enumerate(ahead[:2]):
            for row in plain[:6]:
                reasons = found[-1][:at] + ((chosen, row[:3]),) + found[-1][at + 1:]
                self.assertIs(shows_least_lot(world, kinds, work, plan, found[:-1] + (reasons,)), row[:3] in keys)


class Written(unittest.TestCase, Refusing):
    """Cases written out."""

    def test_more_tapes_can_be_wrong(self):
        # Two tapes without guards: both are never off, each is right at one key alone.
        found = least_lot(BARE, "n", lambda hand, x: 1 if x == 0 else 0, Plan())
        self.assertEqual((found[0], [len(chosen) for chosen, _ in found[1]]), ("none", [1, 1, 2, 2]))

    def test_a_sequence_of_tapes(self):
        def work(hand, x):
            return 1 if hand.holds(x == 0, "g") else 0

        found = least_lot(BARE, "n", work, Plan(("g",)))
        self.assertEqual([tape.end for tape in found[1]], [("gives", ("known", 0)), ("gives", ("known", 1))])
        self.assertEqual([len(chosen) for chosen, _ in found[2]], [1, 1])

    def test_five_tapes_and_six(self):
        world = World(4, 1, (("c", 0),), ())

        def work(limit):
            def told(hand, x):
                for n in range(4):
                    if hand.holds(x == n, "g"):
                        return n if n < 3 or not bool(hand.cell("c") < limit) else [3, 2, 1, 0][next(k for k in range(4) if bool(hand.cell("c") == k))]
                return 0
            return told

        found = least_lot(world, "n", work(2), Plan(("g",)))
        self.assertEqual(len({repr(tape.end) for reason in found[-1] for tape in reason[0]}), 4)
        self.raises(TooMany, "number", 5, least_lot, World(3, 1, (), ()), "nn", lambda hand, x, y: [hand.holds(x == n, "g") or hand.holds(y == n, "g") for n in range(3)] and 0, Plan(("g",)))

    def test_plans_bear_by_guards_and_known_alone(self):
        def work(hand, x):
            hand.put("c", x)
            return hand.cell("c") if hand.holds(x == 0, "g") else 0

        world = World(2, 1, (("c", 0),), ())
        for guards, known in ((("g",), True), ((), False), (("g",), False)):
            plain = least_lot(world, "n", work, Plan(guards, known=known))
            for held, own in ((True, ("work",)), (False, ()), (False, ("a", "b", "c")), (True, ("zz",))):
                plan = Plan(guards, known=known, held=held, own=own)
                self.assertEqual(least_lot(world, "n", work, plan), plain)
                self.assertTrue(shows_least_lot(world, "n", work, plan, plain))
        self.assertNotEqual(least_lot(world, "n", work, Plan(("g",), known=True)), least_lot(world, "n", work, Plan(("g",))))

    def test_keys_without_a_tape(self):
        def work(hand, x):
            return hand.fail("long") if bool(x == 1) and bool(hand.cell("c") == 1) else 0

        world = World(2, 1, (("c", 0),), ())
        self.raises(NoTape, "value", ((1,), (), (1,)), least_lot, world, "n", work, Plan())
        self.raises(NoTape, "value", ((1,), (), (1,)), shows_least_lot, world, "n", work, Plan(), None)

        def many(hand, x, y):
            for n in range(3):
                hand.holds(x == n, "g")
                hand.holds(y == n, "g")
            return hand.fail("long") if bool(x == 2) and bool(y == 2) else 0

        # No tape is told ahead of too many.
        self.raises(NoTape, "value", ((), (), (2, 2)), least_lot, World(3, 1, (), ()), "nn", many, Plan(("g",)))

    def test_what_are_no_kinds(self):
        work = lambda hand, *values: hand.fail("long")
        for world in (BARE, WORLDS[1]):
            wrong = [value for value in any_values() if value != ""] + ["nnnn", "x", "N"] + (["r"] if world is BARE else [])
            for value in wrong:
                self.refused(BadKinds, value, least_lot, world, value, work, Plan())
                self.refused(BadKinds, value, shows_least_lot, world, value, work, Plan(), None)
        self.raises(TooMany, "number", 1000, least_lot, WIDE, "n", work, Plan())
        self.raises(TooMany, "number", 1000, shows_least_lot, WIDE, "n", work, Plan(), None)
        self.refused(BadKinds, "nnnn", least_lot, WIDE, "nnnn", work, Plan())
        self.raises(NoTape, "value", ((), (), ()), least_lot, BARE, "", work, Plan())

    def test_the_functions_are_as_listed(self):
        listed = {least_lot: ["world", "kinds", "work", "plan"], shows_least_lot: ["world", "kinds", "work", "plan", "value"]}
        for function, names in listed.items():
            self.assertEqual(function.__module__, "tapedonce.covering")
            self.assertEqual([*inspect.signature(function).parameters], names)


class Near(unittest.TestCase):

    def check(self, work, plan, change):
        found = least_lot(BARE, "n", work, plan)
        reasons = found[-1]
        near = any_values() + [list(found), found[:-1], found + ((),), ("Lot",) + found[1:], (None,) + found[1:], found[::-1], ("lot", reasons), ("none", (), reasons)]
        near += [found[:-1] + (value,) for value in any_values() + [list(reasons), reasons[:-1], reasons[::-1], reasons + reasons[:1]]]
        for at, (chosen, key) in enumerate(reasons):
            rest = [list(reasons[at]), (chosen,), (chosen, key, ()), (key, chosen), (list(chosen), key), (chosen + chosen[:1], key), (chosen[:-1], key), (None, key), (chosen[0], key)]
            rest += [(chosen, value) for value in any_values() + [list(key), key[:2], ((), (), (2,)), ((), (), [0]), ((), (), (True,)), ((), (), (0, 0))]]
            near += [found[:-1] + (reasons[:at] + (row,) + reasons[at + 1:],) for row in rest]
        near += change(found)
        for value in near:
            self.assertIs(shows_least_lot(BARE, "n", work, plan, value), False)
        self.assertIs(shows_least_lot(value=found, plan=plan, work=work, kinds="n", world=BARE), True)
        again = tuple(tuple(Tape(BARE, "n", tape.steps, tape.end) for tape in chosen) for chosen, _ in reasons)
        twin = tuple((tapes, key) for tapes, (_, key) in zip(again, reasons))
        self.assertIs(shows_least_lot(BARE, "n", work, plan, found[:-1] + (twin,)), True)

    def test_near_lot(self):
        def change(found):
            _, tapes, reasons = found
            return [("lot", value, reasons) for value in any_values() + [list(tapes), tapes[::-1], tapes[:1], tapes + tapes[:1], Lot(*tapes), tapes[0]]]

        self.check(lambda hand, x: 1 if hand.holds(x == 0, "g") else 0, Plan(("g",)), change)

    def test_near_none(self):
        self.check(lambda hand, x: 1 if x == 0 else 0, Plan(), lambda found: [("lot", found[1][0][0], found[1])])


class Examples(unittest.TestCase):

    def test_one_tape_will_do(self):
        told = least_lot(World(2, 1, (), ()), "n", lambda hand, x: [x, 0][int(bool(x == 1))], Plan())
        self.assertEqual([told[0], told[1][0].end, told[2][0][0][0].end, told[2][0][1]], ["lot", ("gives", ("known", 0)), ("gives", ("arg", 0)), ((), (), (1,))])


if __name__ == "__main__":
    unittest.main()
