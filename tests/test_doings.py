"""Section 14: doings."""

import inspect
import itertools
import random
import unittest

from tapedonce.doings import Doing, beyond, doing_of, doing_plainly, parted
from tapedonce.errors import BadDoing, BadKinds, BadTape, NoKey, TooMany
from tapedonce.numbers import Number
from tapedonce.tapes import Lot, Tape
from tapedonce.worlds import World
from tests.keysets import behind, keys_of, plain_table, table_of
from tests.making import Refusing
from tests.scripts import Maker, work_of
from tests.tapemaker import TapeMaker
from tests.values import any_values

BARE = World(2, 1, (), ())
WORLD = World(2, 1, (("c", 0),), (("p", ()),))
TWIN = World(2, 1, (("c", 0),), (("p", ()),))
WIDE = World(3, 2, (("c", 1),), (("p", (1,)), ("q", ())))
WORLDS = [BARE, WORLD, World(3, 2, (), (("p", (0, 1)),)), World(4, 1, (("c", 1), ("d", 2)), ()), WIDE]
X = ("arg", 0)


def table(world, kinds, tell):
    """A table that tells at each key what tell makes of it."""
    return tuple((*key, tell(*key)) for key in keys_of(world, kinds))


def drawn(seed, world, kinds, many=None):
    """A tape without calls."""
    return TapeMaker(seed, world, kinds, {}).tape(seed % 6 if many is None else many)


def drawn_kinds(seed, world, most=3):
    chance = random.Random(seed)
    return "".join(chance.choice("nr" if world.rows else "n") for _ in range(chance.randint(0, most)))


def few_keys(world, kinds):
    return len(keys_of(world, kinds)) <= 400


def drawn_table(chance, world, kinds):
    """A table of anything that may be told."""
    stands = sorted({key[:2] for key in keys_of(world, kinds)})

    def tell(*key):
        way = chance.randrange(4)
        if way == 0:
            return None
        if way == 1:
            return (("faults", tuple(chance.choice(("zero", "no", "abcdefgh")) for _ in range(chance.randint(1, 3)))), *chance.choice(stands))
        return (("gives", chance.randrange(world.size)), *chance.choice(stands))

    return table(world, kinds, tell)


class Making(unittest.TestCase, Refusing):

    def plain(self, world, kinds):
        return table(world, kinds, lambda worths, items, values: (("gives", 0), worths, items))

    def test_what_is_made(self):
        for world in WORLDS:
            for kinds in ("", "n", "nn", "nnn", "nnnn", "r", "rn", "nrr", "rrrr"):
                if (world.rows or "r" not in kinds) and few_keys(world, kinds):
                    rows = self.plain(world, kinds)
                    doing = Doing(world, kinds, rows)
                    self.assertIs(doing.world, world)
                    self.assertIs(doing.kinds, kinds)
                    self.assertIs(doing.table, rows)
        self.assertEqual(Doing(table=self.plain(BARE, "n"), kinds="n", world=BARE), Doing(BARE, "n", self.plain(BARE, "n")))

    def test_what_are_no_kinds(self):
        for world in (BARE, WORLD):
            wrong = [value for value in any_values() if value not in ("", "0", "2")] + ["nnnnn", "N", "nx", "n ", "rrrrr", b"n", ("n",)]
            wrong = [value for value in wrong if value != ""] + ["0", "2"] + (["r", "nr"] if world is BARE else [])
            for value in wrong:
                self.refused(BadKinds, value, Doing, world, value, None)
                self.refused(BadKinds, value, Doing, table=(), kinds=value, world=world)

    def test_a_thousand_keys_and_more(self):
        for world, kinds, many in (
            (World(4, 1, (("c", 0), ("d", 0)), ()), "nnn", 1024), (WIDE, "nrr", 3 * 13 * 13 * 3 * 4), (World(4, 2, (), (("p", ()), ("q", ()))), "nnnn", 441 * 256),
            (World(3, 2, (("c", 0),), (("p", ()), ("q", ()))), "rn", 507 * 6), (World(4, 2, (("c", 0), ("d", 0)), (("p", ()), ("q", ()))), "", 7056),
        ):
            self.assertGreater(many, 1000)
            self.raises(TooMany, "number", 1000, Doing, world, kinds, None)
            self.raises(TooMany, "number", 1000, Doing, world, kinds, ())
            self.refused(BadKinds, "x", Doing, world, "x", ())
        for world, kinds, many in (
            (World(4, 1, (("c", 0), ("d", 0)), ()), "nn", 256), (World(3, 2, (("c", 0), ("d", 0)), (("p", ()),)), "nn", 9 * 13 * 9 - 53), (WIDE, "", 507),
            (World(4, 2, (("c", 0),), (("p", ()),)), "nr", 336), (World(3, 1, (("c", 0), ("d", 0)), (("p", ()),)), "nnn", 972),
            (World(2, 2, (), (("p", ()), ("q", ()))), "nrrr", 784),
        ):
            if many <= 1000 and many == len(keys_of(world, kinds)):
                self.assertEqual(len(Doing(world, kinds, self.plain(world, kinds))), many)
            else:
                self.raises(TooMany, "number", 1000, Doing, world, kinds, None)

    def test_what_is_no_table(self):
        rows = self.plain(WORLD, "nr")
        good = ((("gives", 1), (1,), ((0,),)), (("faults", ("no",)), (0,), ((),)), (("faults", ("no", "zero", "abcdefgh")), (0,), ((),)), None)
        told = [value for value in any_values() if value is not None]
        told += [list(good[0]), good[0][:2], good[0] + ((),), (good[0],), (("gives", 2), (1,), ((0,),)), (("gives", True), (1,), ((0,),)), (("gives",), (1,), ((0,),))]
        told += [(("gives", -1), (1,), ((0,),)), (("gave", ("no",)), (1,), ((0,),)), ((None, ("no",)), (1,), ((0,),)), (("Faults", ("no",)), (1,), ((0,),))]
        told += [(("gives", 0, 0), (1,), ((0,),)), (("gave", 0), (1,), ((0,),)), (["gives", 0], (1,), ((0,),)), (None, (1,), ((0,),)), (("gives", ("no",)), (1,), ((0,),))]
        told += [(("faults", words), (0,), ((),)) for words in ((), ("no",) * 4, ("No",), "no", ["no"], (1,), ("",), ("abcdefghi",), ("no", None), 0)]
        told += [(("gives", 0), worths, ((),)) for worths in ((), (0, 0), (2,), [0], 0, (True,), None)]
        told += [(("gives", 0), (0,), items) for items in ((), ((), ()), ((2,),), ((0, 0),), [()], (0,), None, ([],))]
        for at in (0, 5, len(rows) - 1):
            for value in good:
                changed = rows[:at] + (rows[at][:3] + (value,),) + rows[at + 1:]
                self.assertIs(Doing(WORLD, "nr", changed).table, changed)
            wrong = [rows[:at] + (rows[at][:3] + (value,),) + rows[at + 1:] for value in told]
            for part in range(3):
                wrong += [rows[:at] + (rows[at][:part] + (value,) + rows[at][part + 1:],) + rows[at + 1:] for value in [(), (2,), [0], (True,), ((0,), (0,)), None]]
            wrong += [rows[:at] + rows[at + 1:], rows[:at] + rows[at:at + 1] + rows[at:], rows[:at] + (list(rows[at]),) + rows[at + 1:]]
            wrong += [rows[:at] + (rows[at][:3],) + rows[at + 1:], rows[:at] + (rows[at] + (None,),) + rows[at + 1:], rows[:at] + (None,) + rows[at + 1:]]
            for value in wrong:
                self.refused(BadDoing, value, Doing, WORLD, "nr", value)
        for value in any_values() + [list(rows), rows[::-1], rows[1:] + rows[:1], rows + rows, {}]:
            self.refused(BadDoing, value, Doing, WORLD, "nr", value)
        self.refused(BadDoing, rows, Doing, WORLD, "rn", rows)
        self.refused(BadDoing, rows, Doing, World(2, 2, (("c", 0),), (("p", ()),)), "nr", rows)

    def test_the_class_is_as_listed(self):
        self.assertEqual(Doing.__module__, "tapedonce.doings")
        self.assertEqual([*inspect.signature(Doing).parameters], ["world", "kinds", "table"])
        for name in ("world", "kinds", "table"):
            self.assertIsInstance(vars(Doing)[name], property)
            with self.assertRaises(AttributeError):
                setattr(Doing(BARE, "", self.plain(BARE, "")), name, None)
        for name in ("getitem", "contains", "len", "eq", "le", "lt", "ge", "gt", "and", "or"):
            self.assertIn(f"__{name}__", vars(Doing))


class Keys(unittest.TestCase, Refusing):

    def setUp(self):
        chance = random.Random(5)
        self.rows = drawn_table(chance, WORLD, "nr")
        self.doing = Doing(WORLD, "nr", self.rows)

    def test_what_is_told_at_a_key(self):
        for worths, items, values, told in self.rows:
            self.assertIs(self.doing[worths, items, values], told)
            self.assertIs(self.doing[(worths, items, values)], told)
            self.assertIs((worths, items, values) in self.doing, told is not None)
        self.assertEqual(len(self.doing), sum(row[3] is not None for row in self.rows))
        self.assertEqual(len(Doing(WORLD, "nr", table(WORLD, "nr", lambda *key: None))), 0)

    def wrong_keys(self):
        right = self.rows[0][:3]
        wrong = any_values() + [list(right), right[:2], right + ((),), right[::-1], (right,), self.rows[0]]
        for at in range(3):
            for value in any_values() + [(2,), (0, 0), [0], (True,), ((0, 0),), ((2,),), (0, "q"), ("p", 0), (0, "p", 0), [0, "p"], (0,)]:
                key = right[:at] + (value,) + right[at + 1:]
                if not (at == 0 and value in ((0,), (1,)) and type(value[0]) is int or at == 1 and value in (((),), ((0,),))):
                    wrong.append(key)
        return wrong + [((0,), ((),), (Number(2, 0), "p")), ((0,), ((),), (False, "p")), ((0,), ((True,),), (0, "p"))]

    def test_what_is_no_key(self):
        for value in self.wrong_keys():
            self.refused(NoKey, value, lambda key: self.doing[key], value)
            self.assertIs(value in self.doing, False)
            if type(value) is tuple and len(value) == 3:
                self.raises(NoKey, "value", value, lambda one, two, three: self.doing[one, two, three], *value)

    def test_a_doing_is_not_iterated_over(self):
        with self.assertRaises(TypeError):
            list(self.doing)


class Compared(unittest.TestCase):

    def test_equality(self):
        chance = random.Random(3)
        rows = drawn_table(chance, WORLD, "n")
        one = Doing(WORLD, "n", rows)
        self.assertTrue(one == Doing(TWIN, "n", tuple(list(rows))))
        self.assertFalse(one != Doing(TWIN, "n", rows))
        others = [Doing(World(2, 1, (("c", 1),), (("p", ()),)), "n", rows), Doing(World(2, 1, (("d", 0),), (("p", ()),)), "n", rows)]
        for at in range(len(rows)):
            told = None if rows[at][3] is not None else (("gives", 0), (0,), ((),))
            others.append(Doing(WORLD, "n", rows[:at] + (rows[at][:3] + (told,),) + rows[at + 1:]))
        others.append(Doing(BARE, "", (((), (), (), None),)))
        for other in others + any_values() + [rows, WORLD]:
            self.assertFalse(one == other)
            self.assertTrue(one != other)
            self.assertFalse(other == one)

    def test_kinds_tell_doings_apart(self):
        world = World(2, 1, (), (("p", ()),))
        nothing = [Doing(world, kinds, table(world, kinds, lambda *key: None)) for kinds in ("", "n", "nn", "r", "rn", "nr")]
        for at, one in enumerate(nothing):
            self.assertEqual([one == other for other in nothing], [at == k for k in range(len(nothing))])

    def test_less_and_more(self):
        world, seen = World(2, 1, (), ()), set()
        told = [None, (("gives", 0), (), ()), (("gives", 1), (), ()), (("faults", ("no",)), (), ())]
        keys = keys_of(world, "n")
        doings = [Doing(world, "n", tuple((*key, tell) for key, tell in zip(keys, pair))) for pair in itertools.product(told, repeat=2)]
        for one, other in itertools.product(doings, repeat=2):
            pairs = [(row[3], beside[3]) for row, beside in zip(one.table, other.table)]
            less = all(tell is None or tell == also for tell, also in pairs)
            more = all(also is None or tell == also for tell, also in pairs)
            same = one.table == other.table
            self.assertEqual((one <= other, one >= other), (less, more))
            self.assertEqual((one < other, one > other), (less and not same, more and not same))
            self.assertEqual((one == other, one != other), (same, not same))
            seen.add((less, more))
            self.assertEqual(beyond(one, other), next((row[:3] for row, (tell, also) in zip(one.table, pairs) if tell is not None and tell != also), None))
            self.assertEqual(parted(other=other, one=one), next((row[:3] for row, (tell, also) in zip(one.table, pairs) if tell != also), None))
            self.assertEqual(beyond(other=other, one=one) is None, one <= other)
            self.assertEqual(parted(one, other) is None, one == other)
        self.assertEqual(len(seen), 4)
        self.assertIs(doings[0] <= doings[1], True)
        self.assertIs(doings[1] > doings[0], True)

    def test_other_worlds_and_kinds(self):
        world = World(2, 1, (), (("p", ()),))
        found = [Doing(world, kinds, table(world, kinds, lambda *key: None)) for kinds in ("", "n", "r")]
        found.append(Doing(World(2, 1, (), (("p", (0,)),)), "n", found[1].table))
        for one, other in itertools.permutations(found, 2):
            self.assertEqual((one <= other, one < other, one >= other, one > other), (False,) * 4)
            self.assertEqual((one <= one, one < one), (True, False))

    def test_least_keys(self):
        rows = table(WORLD, "rn", lambda worths, items, values: (("gives", 0), worths, items))
        one = Doing(WORLD, "rn", rows)
        for first, second in itertools.combinations(range(0, len(rows), 3), 2):
            changed = list(rows)
            changed[first], changed[second] = rows[first][:3] + (None,), rows[second][:3] + ((("gives", 1),) + rows[second][3][1:],)
            other = Doing(WORLD, "rn", tuple(changed))
            self.assertEqual(parted(one, other), rows[first][:3])
            self.assertEqual(beyond(one, other), rows[first][:3])
            self.assertEqual(beyond(other, one), rows[second][:3])

    def test_comparisons_with_nothing_else(self):
        one = doing_of(Tape(BARE, "", (), ("gives", ("known", 0))))
        for other in (None, 0, "x", (), [one]):
            for act in (lambda: one < other, lambda: one <= other, lambda: one > other, lambda: one >= other, lambda: one & other, lambda: one | other):
                with self.assertRaises(TypeError):
                    act()


class Joined(unittest.TestCase, Refusing):
    """Doings one behind the other, and one in the place of the other."""

    def test_behind(self):
        chance, seen = random.Random(8), 0
        for seed in range(60):
            world = WORLDS[seed % 4]
            kinds, more = drawn_kinds(seed, world, 2), drawn_kinds(seed + 1000, world, 2)
            if not few_keys(world, kinds + more):
                continue
            one, other = drawn_table(chance, world, kinds), drawn_table(chance, world, more)
            found = Doing(world, kinds, one) & Doing(world, more, other)
            self.assertEqual((found.world, found.kinds, found.table), (world, kinds + more, behind(one, other, kinds)))
            seen += 1
        self.assertGreater(seen, 30)

    def test_behind_is_as_told(self):
        def one(worths, items, values):
            return {(0,): None, (1,): (("gives", 0), (0,), ((1,),))}[values] if worths == (0,) else (("faults", ("no",)), (1,), ((),))

        def other(worths, items, values):
            return (("gives", values[0] * worths[0] if items == ((),) else 1 - values[0]), (1,), items)

        found = Doing(WORLD, "n", table(WORLD, "n", one)) & Doing(TWIN, "n", table(WORLD, "n", other))
        self.assertEqual(found.kinds, "nn")
        self.assertIsNone(found[(0,), ((),), (0, 1)])
        self.assertEqual(found[(0,), ((),), (1, 1)], (("gives", 0), (1,), ((1,),)))
        self.assertEqual(found[(0,), ((0,),), (1, 0)], (("gives", 1), (1,), ((1,),)))
        self.assertEqual(found[(1,), ((),), (1, 0)], (("faults", ("no",)), (1,), ((),)))

    def test_too_many_kinds_and_keys(self):
        three = Doing(BARE, "nnn", table(BARE, "nnn", lambda *key: None))
        two = Doing(BARE, "nn", table(BARE, "nn", lambda *key: None))
        self.assertEqual((two & two).kinds, "nnnn")
        self.raises(BadKinds, "value", "nnnnn", lambda: three & two)
        self.raises(BadKinds, "value", "nnnnnn", lambda: three & three)
        one = Doing(WIDE, "r", table(WIDE, "r", lambda *key: None)) if few_keys(WIDE, "r") else None
        self.assertIsNone(one)
        world = World(4, 1, (("c", 0), ("d", 0)), ())
        one = Doing(world, "nn", table(world, "nn", lambda *key: None))
        self.raises(TooMany, "number", 1000, lambda: one & one)
        self.raises(BadKinds, "value", "nnnnnn", lambda: (one & Doing(world, "", table(world, "", lambda *key: None))) & Doing(BARE, "nnnn", table(BARE, "nnnn", lambda *key: None)))

    def test_in_the_place(self):
        chance = random.Random(4)
        for seed in range(40):
            world = WORLDS[seed % 4]
            kinds = drawn_kinds(seed, world, 2)
            if few_keys(world, kinds):
                one, other = drawn_table(chance, world, kinds), drawn_table(chance, world, kinds)
                found = Doing(world, kinds, one) | Doing(world, kinds, other)
                expected = tuple(row if row[3] is not None else beside for row, beside in zip(one, other))
                self.assertEqual((found.world, found.kinds, found.table), (world, kinds, expected))
                self.assertTrue(Doing(world, kinds, one) <= found)

    def test_neither_is_changed(self):
        chance = random.Random(6)
        one, other = drawn_table(chance, WORLD, "n"), drawn_table(chance, WORLD, "n")
        first, second = Doing(WORLD, "n", one), Doing(WORLD, "n", other)
        first & second, first | second
        self.assertEqual((first.table, second.table, first.kinds), (one, other, "n"))


class OfTapes(unittest.TestCase, Refusing):

    def test_tapes_by_chance(self):
        off = 0
        for seed in range(250):
            world = WORLDS[seed % 5]
            kinds = drawn_kinds(seed, world, 4)
            if few_keys(world, kinds):
                tape = drawn(seed, world, kinds)
                found = doing_of(tape)
                self.assertEqual((found.world, found.kinds, found.table), (world, kinds, table_of(tape)))
                off += len(found.table) - len(found)
        self.assertGreater(off, 200)

    def test_lots_by_chance(self):
        for seed in range(80):
            world = WORLDS[seed % 4]
            kinds = drawn_kinds(seed, world, 2)
            if few_keys(world, kinds):
                tapes = [drawn(seed * 7 + k, world, kinds) for k in range(1 + seed % 4)]
                lot = Lot(*tapes)
                tables = [table_of(tape) for tape in tapes]
                expected = tuple(next((row for row in rows if row[3] is not None), rows[0]) for rows in zip(*tables))
                self.assertEqual(doing_of(tape=lot).table, expected)
                first = doing_of(tapes[0])
                for tape in tapes[1:]:
                    first = first | doing_of(tape)
                self.assertEqual(doing_of(lot), first)
                if len(tapes) > 1:
                    self.assertEqual(doing_of(tapes[0] | tapes[1]), doing_of(tapes[0]) | doing_of(tapes[1]))

    def test_what_is_no_tape(self):
        call = Tape(BARE, "nnnnnn", (("call", "w", ()),), ("gives", ("known", 0)))
        fails = Tape(BARE, "n", (("fine", X), ("fails", ("call", "w", ()), "a")), ("gives", ("known", 0)))
        for value in any_values() + [call, fails, Tape, Lot, BARE, [call]]:
            self.refused(BadTape, value, doing_of, value)
            self.refused(BadTape, value, doing_of, tape=value)

    def test_too_many_letters_and_keys(self):
        for many in (5, 6):
            for world in (BARE, World(4, 2, (("c", 0), ("d", 0)), ())):
                kinds = "n" * many
                tape = Tape(world, kinds, (), ("gives", ("known", 0)))
                self.refused(BadKinds, kinds, doing_of, tape)
                self.refused(BadKinds, kinds, doing_of, Lot(tape))
        tape = Tape(WIDE, "n", (), ("gives", ("known", 0)))
        self.raises(TooMany, "number", 1000, doing_of, tape)
        self.raises(TooMany, "number", 1000, doing_of, Lot(tape, tape))
        self.assertEqual(len(doing_of(Tape(WIDE, "", (), ("gives", ("known", 0))))), 507)
        self.assertEqual(len(doing_of(Tape(BARE, "nnnn", (), ("gives", ("known", 0))))), 16)


class OfWorks(unittest.TestCase, Refusing):

    def test_scripts_by_chance(self):
        seen = set()
        for seed in range(200):
            world = WORLDS[seed % 4]
            kinds = drawn_kinds(seed, world, 3)
            if not few_keys(world, kinds):
                continue
            maker = Maker(seed, world.size, [name for name, _ in world.cells], [name for name, _ in world.rows], {"w": kinds})
            script = maker.script("w", 3)
            if '"call"' in repr(script).replace("'", '"'):
                continue
            found = doing_plainly(world, kinds, work_of(world.size, script))
            self.assertEqual((found.world, found.kinds, found.table), (world, kinds, plain_table(world, kinds, script)))
            self.assertEqual(len(found), len(found.table))
            seen |= {row[3][0][1] for row in found.table if row[3][0][0] == "faults"}
        self.assertGreater(len(seen), 4)

    def test_faults_of_all_kinds(self):
        def work(hand, x):
            hand.put("c", x)
            if x == 0:
                return "none"
            for _ in range(50):
                hand.put("c", 0)

        found = doing_plainly(work=work, kinds="n", world=World(2, 1, (("c", 0),), ()))
        self.assertEqual([row[3] for row in found.table], [(("faults", ("kind",)), (0,), ()), (("faults", ("long",)), (0,), ())] * 2)

    def test_what_are_no_kinds(self):
        work = lambda hand, *values: 0
        for world in (BARE, WORLD):
            wrong = [value for value in any_values() if value != ""] + ["nnnn", "rrrr", "x", "N"] + (["r"] if world is BARE else [])
            for value in wrong:
                self.refused(BadKinds, value, doing_plainly, world, value, work)
            for kinds in ("", "n", "nn", "nnn"):
                self.assertEqual(doing_plainly(world, kinds, work).kinds, kinds)
        self.raises(TooMany, "number", 1000, doing_plainly, WIDE, "n", work)
        self.refused(BadKinds, "nnnn", doing_plainly, WIDE, "nnnn", work)

    def test_the_functions_are_as_listed(self):
        listed = {doing_of: ["tape"], doing_plainly: ["world", "kinds", "work"], parted: ["one", "other"], beyond: ["one", "other"]}
        for function, names in listed.items():
            self.assertEqual(function.__module__, "tapedonce.doings")
            self.assertEqual([*inspect.signature(function).parameters], names)


class Examples(unittest.TestCase):

    def test_a_guard(self):
        tape = Tape(World(2, 1, (("c", 0),), ()), "n", (("guard", ("less", ("arg", 0), ("cell", "c", 0)), True),), ("gives", ("cell", "c", 0)))
        told = [doing_of(tape).table, len(doing_of(tape)), ((0,), (), (1,)) in doing_of(tape)]
        expected = (((0,), (), (0,), None), ((0,), (), (1,), None), ((1,), (), (0,), (("gives", 1), (1,), ())), ((1,), (), (1,), None))
        self.assertEqual(told, [expected, 1, False])


if __name__ == "__main__":
    unittest.main()
