"""Section 5: worlds, their stands, setups and their deeds."""

import inspect
import itertools
import unittest

from tapedonce import worlds
from tapedonce.errors import BadSetup, BadWorld
from tapedonce.numbers import Number
from tapedonce.plans import Plan
from tapedonce.rows import Row
from tapedonce.worlds import Setup, World
from tests.making import Refusing
from tests.values import any_values, is_plain

NAMES = ("a", "z", "abcdefgh", "hgfedcba", "cell")

NO_NAMES = (
    "", "abcdefghi", "A", "aB", "a1", "a b", "a_", "-", " ", "\u00e4", "a\n", 1, 0, None, True, b"a", ("a",), ["a"], {},
)


def work(hand, *values):
    return 0


def good_worlds():
    """Arguments of worlds that there are."""
    cells = ((), (("c", 0),), (("c", 1), ("d", 0)), (("a", 1), ("zzzzzzzz", 1)))
    rows = ((), (("p", ()),), (("p", (1,)), ("q", ())), (("b", (0,)), ("y", (1,))))
    for size, most, some, others in itertools.product((2, 3, 4), (1, 2), cells, rows):
        names = sorted([name for name, _ in some + others])
        for many in range(len(names) + 1):
            for loose in itertools.combinations(names, many):
                yield size, most, some, others, loose


class Worlds(unittest.TestCase, Refusing):

    def test_all_that_are_right(self):
        for size, most, cells, rows, loose in good_worlds():
            by_name = World(loose=loose, rows=rows, cells=cells, most=most, size=size)
            for world in (World(size, most, cells, rows, loose), by_name):
                found = (world.size, world.most, world.cells, world.rows, world.loose)
                self.assertEqual(found, (size, most, cells, rows, loose))
                self.assertTrue(is_plain(world.size) and is_plain(world.most))

    def test_loose_may_be_left_out(self):
        world = World(2, 1, (("c", 0),), (("r", ()),))
        self.assertEqual(world.loose, ())
        self.assertEqual(world, World(2, 1, (("c", 0),), (("r", ()),), ()))

    def test_names_worths_and_items_next_to_the_bounds(self):
        for name in NAMES:
            self.assertEqual(World(2, 1, ((name, 0),), ()).cells, ((name, 0),))
            self.assertEqual(World(2, 1, (), ((name, ()),), (name,)).rows, ((name, ()),))
        for size in (2, 3, 4):
            for worth in range(size):
                self.assertEqual(World(size, 1, (("c", worth),), ()).first, ((worth,), ()))
            for items in [()] + [(worth,) for worth in range(size)]:
                self.assertEqual(World(size, 1, (), (("r", items),)).first, ((), (items,)))
            for items in itertools.product(range(size), repeat=2):
                self.assertEqual(World(size, 2, (), (("r", items),)).first, ((), (items,)))

    def test_what_is_no_size_and_no_most(self):
        for value in any_values():
            if not (is_plain(value) and value in (2, 3, 4)):
                self.refused(BadWorld, value, World, value, 1, (), ())
                self.refused(BadWorld, value, World, loose=(), rows=(), cells=(), most=2, size=value)
            if not (is_plain(value) and value in (1, 2)):
                self.refused(BadWorld, value, World, 2, value, (), ())
                self.refused(BadWorld, value, World, rows=(), cells=(), most=value, size=2)

    def test_what_are_no_cells(self):
        wrong = [value for value in any_values() if value != ()]
        wrong += [[], [("c", 0)], (["c", 0],), (("c",),), (("c", 0, 0),), ("c", 0), ("c0",), (("c", 0), None), ((),)]
        wrong += [(("c", 0), ("c", 1)), (("c", 0), ("c", 0)), (("d", 0), ("c", 0)), (("d", 0), ("c", 1))]
        wrong += [(("a", 0), ("b", 0), ("c", 0)), {"c": 0}, ((0, "c"),), (("a", 0), ("b", 2)), (("a", 0), ("B", 0))]
        wrong += [((name, 0),) for name in NO_NAMES]
        wrong += [(("c", worth),) for worth in (-1, 2, True, False, None, "0", b"0", (0,), [], Number(2, 0), 10 ** 17)]
        for value in wrong:
            self.refused(BadWorld, value, World, 2, 1, value, ())
            self.refused(BadWorld, value, World, rows=(), cells=value, most=1, size=2)
        for size in (2, 3, 4):
            value = (("c", size),)
            self.refused(BadWorld, value, World, size, 1, value, ())

    def test_what_are_no_rows(self):
        wrong = [value for value in any_values() if value != ()]
        wrong += [[], [("r", ())], (["r", ()],), (("r",),), (("r", (), ()),), ("r", ()), (("r", ()), None), ((),)]
        wrong += [(("r", ()), ("r", (1,))), (("r", ()), ("r", ())), (("s", ()), ("r", ())), {"r": ()}, (((), "r"),)]
        wrong += [(("a", ()), ("b", ()), ("d", ())), (("a", ()), ("b", (2,))), (("a", ()), ("b", 0))]
        wrong += [((name, ()),) for name in NO_NAMES]
        things = [[], [0], 0, None, "", "0", b"", {}, (2,), (-1,), (0, 0), (True,), (None,), ("0",), ((0,),)]
        wrong += [(("r", items),) for items in things + [(Number(2, 0),), Row(2, 1, ())]]
        for value in wrong:
            self.refused(BadWorld, value, World, 2, 1, (), value)
            self.refused(BadWorld, value, World, rows=value, cells=(), most=1, size=2)
        for size in (2, 3, 4):
            for items in ((size,), (0, size), (size, 0), (0, 0, 0)):
                value = (("r", items),)
                self.refused(BadWorld, value, World, size, 2, (), value)

    def test_a_name_of_both_is_told_with_rows(self):
        for cells, rows in (((("x", 0),), (("x", ()),)), ((("a", 0), ("x", 0)), (("b", ()), ("x", ())))):
            self.refused(BadWorld, rows, World, 2, 1, cells, rows)
            self.refused(BadWorld, rows, World, 2, 1, cells, rows, ("x",))

    def test_what_is_not_loose(self):
        cells, rows = (("b", 0), ("d", 0)), (("a", ()), ("c", ()))
        wrong = [value for value in any_values() if value not in ((), )]
        wrong += [[], ["b"], ("e",), ("b", "a"), ("b", "b"), ("a", "b", "c", "d", "e"), ("a", "b", "c", "c"), "a", "ab"]
        wrong += [("B",), (b"b",), (("b",),), (0,), ("",), ("b", None), {"b": 0}, (("b", 0),), ("bd",)]
        for value in wrong:
            if value != ("a",):
                self.refused(BadWorld, value, World, 2, 1, cells, rows, value)
                self.refused(BadWorld, value, World, loose=value, rows=rows, cells=cells, most=1, size=2)
        value = ("a",)
        self.refused(BadWorld, value, World, 2, 1, (), (), value)
        self.assertEqual(World(2, 1, cells, rows, ("a", "b", "c", "d")).loose, ("a", "b", "c", "d"))

    def test_the_first_wrong_parameter_is_told(self):
        right = [2, 1, (), (), ()]
        for first in range(5):
            for others in itertools.product((False, True), repeat=4 - first):
                wrong = [[first], [first + 1], [first + 2], [first + 3], [first + 4]]
                values = list(right)
                values[first] = wrong[0]
                for at, is_wrong in enumerate(others, first + 1):
                    if is_wrong:
                        values[at] = wrong[at - first]
                self.refused(BadWorld, wrong[0], World, *values)
                names = ("size", "most", "cells", "rows", "loose")
                self.refused(BadWorld, wrong[0], World, **dict(reversed(list(zip(names, values)))))

    def test_equal_by_all_five(self):
        base = (3, 2, (("c", 1),), (("r", (1,)),), ("c",))
        others = [(4,), (1,), ((("c", 2),), (("d", 1),), ()), ((("r", ()),), (("s", (1,)),), ()), ((), ("r",), ("c", "r"))]
        self.assertTrue(World(*base) == World(*base))
        self.assertFalse(World(*base) != World(*base))
        for at, values in enumerate(others):
            for value in values:
                parts = list(base)
                parts[at] = value
                if parts[2] in ((), (("d", 1),)) or parts[3] in ((), (("s", (1,)),)):
                    parts[4] = base[4] if parts[2] == base[2] else ()
                with self.subTest(at=at, value=value):
                    self.assertFalse(World(*base) == World(*parts))
                    self.assertTrue(World(*base) != World(*parts))
        bare = World(2, 1, (("c", 1),), ())
        self.assertNotEqual(bare, World(2, 1, (("d", 1),), ()))
        self.assertNotEqual(bare, World(2, 1, (), (("c", (1,)),)))
        self.assertNotEqual(World(2, 1, (), (("c", (1,)),)), World(2, 1, (), (("c", (0,)),)))
        self.assertNotEqual(World(2, 1, (), (("c", (1,)),)), World(2, 2, (), (("c", (1,)),)))

    def test_equal_nothing_else(self):
        world = World(2, 1, (), ())
        others = any_values() + [(2, 1, (), (), ()), Plan(), Setup(world, (("w", work, ""),), 1), World]
        for other in others:
            self.assertFalse(world == other)
            self.assertFalse(other == world)
            self.assertTrue(world != other)

    def test_first_is_the_stand_of_cells_and_rows(self):
        for size, most, cells, rows, loose in good_worlds():
            first = World(size, most, cells, rows, loose).first
            self.assertIs(first.__class__, tuple)
            self.assertEqual(first, (tuple(worth for _, worth in cells), tuple(items for _, items in rows)))

    def test_the_classes_are_as_listed(self):
        self.assertEqual([*inspect.signature(World).parameters], ["size", "most", "cells", "rows", "loose"])
        self.assertEqual([*inspect.signature(Setup).parameters], ["world", "works", "room"])
        for kind in (World, Setup):
            self.assertEqual(kind.__module__, "tapedonce.worlds")
            self.assertIs(getattr(worlds, kind.__name__), kind)
        for name in ("size", "most", "cells", "rows", "loose", "first", "__eq__"):
            self.assertIn(name, vars(World))
        for name in ("world", "works", "places", "deeds"):
            self.assertIn(name, vars(Setup))


class Setups(unittest.TestCase, Refusing):

    bare = World(2, 1, (("c", 0),), ())
    with_row = World(2, 1, (), (("r", ()),))

    def test_works_and_rooms_that_are_right(self):
        rows = ["", "n", "nn", "nnn", "r", "rr", "rrr", "nr", "rn", "nrn"]
        for world, kinds in ((self.bare, rows[:4]), (self.with_row, rows)):
            for kind, room in itertools.product(kinds, (1, 2)):
                works = (("w", work, kind),)
                by_name = Setup(room=room, works=works, world=world)
                for setup in (Setup(world, works, room), by_name):
                    self.assertIs(setup.world, world)
                    self.assertEqual((setup.works, setup.places), (works, room))
        three = tuple((name, work, "n") for name in ("a", "abcdefgh", "b"))
        for many in (1, 2, 3):
            self.assertEqual(Setup(self.bare, three[:many], 1).works, three[:many])

    def test_of_a_work_itself_nothing_is_looked_at(self):
        for thing in any_values() + [len, World]:
            works = (("w", thing, ""),)
            self.assertIs(Setup(self.bare, works, 1).works[0][1], thing)

    def wrong_works(self):
        one = ("w", work, "n")
        wrong = any_values() + [[one], {"w": work}, one, (list(one),), (one, None), (("w", work),), (("w", work, "n", 1),)]
        wrong += [(one, one), (("w", work, ""), ("w", work, "n")), (("b", work, ""), ("a", work, ""))]
        wrong += [(("a", work, ""), ("c", work, ""), ("b", work, ""))]
        wrong += [tuple((name, work, "") for name in "abcd"), (), (("n", "w", work),)]
        wrong += [((name, work, ""),) for name in NO_NAMES]
        kinds = ["nnnn", "x", "N", "nx", "n ", None, 0, True, ("n",), ["n"], b"n", "r", "nr", "rrr", "\u0578"]
        return wrong + [(("w", work, kind),) for kind in kinds]

    def test_what_are_no_works(self):
        for kind in [chr(sign) for sign in range(32, 127) if chr(sign) != "n"]:
            value = (("w", work, kind),)
            self.refused(BadSetup, value, Setup, self.bare, value, 1)
        for value in self.wrong_works():
            self.refused(BadSetup, value, Setup, self.bare, value, 1)
            self.refused(BadSetup, value, Setup, room=2, works=value, world=self.bare)
        for kind in [chr(sign) for sign in range(32, 127) if chr(sign) not in "nr"] + ["rrrr", "nnnr", "R"]:
            value = (("w", work, kind),)
            self.refused(BadSetup, value, Setup, self.with_row, value, 1)
        value = (("a", work, "r"), ("b", work, "s"))
        self.refused(BadSetup, value, Setup, self.with_row, value, 1)

    def test_what_is_no_room(self):
        works = (("w", work, ""),)
        for value in any_values() + [3, -1, 10 ** 17]:
            if not (is_plain(value) and value in (1, 2)):
                self.refused(BadSetup, value, Setup, self.bare, works, value)
                self.refused(BadSetup, value, Setup, room=value, works=works, world=self.bare)

    def test_works_are_told_ahead_of_room(self):
        for works, room in itertools.product((None, [], ()), (0, 3, True, None)):
            self.refused(BadSetup, works, Setup, self.bare, works, room)


class Deeds(unittest.TestCase):

    def all_items(self, size, most):
        return sorted(items for many in range(most + 1) for items in itertools.product(range(size), repeat=many))

    def reckoned(self, world, works):
        """All deeds, by Python's own products and sorts."""
        names = [name for name, _ in world.rows]
        calls = []
        for name, _, kinds in works:
            parts = [range(world.size) if kind == "n" else names for kind in kinds]
            calls += [("call", name, values) for values in itertools.product(*parts)]
        changes = []
        for name, _ in world.cells:
            if name in world.loose:
                changes += [("change", name, worth) for worth in range(world.size)]
        for name in names:
            if name in world.loose:
                changes += [("change", name, items) for items in self.all_items(world.size, world.most)]
        by_name = sorted(changes, key=lambda deed: deed[1])
        return tuple(sorted(calls) + by_name)

    def test_deeds_of_all_worlds(self):
        for size, most, cells, rows, loose in good_worlds():
            world = World(size, most, cells, rows, loose)
            all_works = [(("w", work, ""),), (("a", work, "nn"), ("b", work, "n"), ("c", work, ""))]
            if rows:
                all_works.append((("a", work, "r"), ("b", work, "nr"), ("c", work, "rrn")))
            for works in all_works:
                deeds = Setup(world, works, 1).deeds
                self.assertIs(deeds.__class__, tuple)
                self.assertEqual(deeds, self.reckoned(world, works))

    def test_deeds_written_out(self):
        world = World(2, 2, (("m", 0),), (("k", ()), ("z", (1,))), ("k", "m"))
        found = Setup(world, (("a", work, "rn"), ("b", work, "")), 2).deeds
        calls = [("call", "a", ("k", 0)), ("call", "a", ("k", 1)), ("call", "a", ("z", 0)), ("call", "a", ("z", 1))]
        calls.append(("call", "b", ()))
        items = [(), (0,), (0, 0), (0, 1), (1,), (1, 0), (1, 1)]
        changes = [("change", "k", thing) for thing in items] + [("change", "m", 0), ("change", "m", 1)]
        self.assertEqual(found, tuple(calls + changes))


if __name__ == "__main__":
    unittest.main()
