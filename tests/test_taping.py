"""Section 9: taping runs, each tape beside one written out by hand."""

import inspect
import itertools
import unittest

from tapedonce.errors import BadPlan, BadStand, BadValues, NoWork
from tapedonce.numbers import Number
from tapedonce.plain import plainly
from tapedonce.plans import Plan
from tapedonce.tapes import Tape
from tapedonce.taping import taped
from tapedonce.worlds import Setup, World
from tests.making import Refusing, looks, setup_of, small_world, tape_of
from tests.reckoning import Field, taping
from tests.scripts import GUARDS, Maker, work_of
from tests.values import any_values

ZERO, ONE, TWO = ("known", 0), ("known", 1), ("known", 2)
X, Y = ("arg", 0), ("arg", 1)
P, Q = ("row", "p"), ("row", "q")
G = Plan(("g",))
TRUE = ("true",)


def several(**works):
    return Setup(small_world(), tuple((name, *works[name]) for name in sorted(works)), 2)


class Written(unittest.TestCase):
    """Checks of what is written, told and left, by the small world: c is 1, d is 0, p has 1, q has nothing."""

    def check(self, work, steps, end, kinds="", values=(), plan=None, told=None, world=None):
        found = tape_of(work, kinds, values, plan, world)
        self.assertIs(found[2].__class__, Tape)
        self.assertEqual((found[2].steps, found[2].end), (tuple(steps), end))
        self.assertEqual(found[2].kinds, kinds)
        plain = plainly(setup_of(work, kinds, world), found[2].world.first, ("call", "work", values))
        self.assertEqual(found[:2], plain)
        if told is not None:
            self.assertEqual(found[0], told)

    def check_calls(self, setup, name, values, plan, steps, end, told=None):
        found = taped(setup, plan, setup.world.first, name, values)
        self.assertEqual((found[2].steps, found[2].end), (tuple(steps), end))
        if not plan.own:
            self.assertEqual(found[:2], plainly(setup, setup.world.first, ("call", name, values)))
        if told is not None:
            self.assertEqual(found[0], told)
        return found


class Steps(Written):

    def test_answers(self):
        self.check(lambda hand: 3, (), ("gives", ("known", 3)), told=("gives", 3))
        self.check(lambda hand: Number(4, 2), (), ("gives", TWO), told=("gives", 2))
        self.check(lambda hand, x: x, (), ("gives", X), "n", (2,), told=("gives", 2))
        self.check(lambda hand, x, y: -(x + y) * 2, (), ("gives", ("do", "*", ("minus", ("do", "+", X, Y)), TWO)), "nn", (2, 3))
        self.check(lambda hand: hand.cell("c"), (), ("gives", ("cell", "c", 0)))
        self.check(lambda hand, row: row[0], (), ("gives", ("item", X, ZERO, 0)), "r", ("p",))

    def test_answers_that_are_none(self):
        for answer in (None, True, "a", 4, -1, Number(3, 1), (), [0]):
            self.check(lambda hand: answer, (), ("faults", ("kind",)), told=("faults", ("kind",)))
        self.check(lambda hand, x: x == 1, (), ("faults", ("kind",)), "n", (1,))
        self.check(lambda hand, row: row, (), ("faults", ("kind",)), "r", ("p",))

    def test_guards_that_are_named(self):
        conditions = [
            (lambda hand, x, row: x == 1, ("equal", X, ONE)), (lambda hand, x, row: x < hand.cell("c"), ("less", X, ("cell", "c", 0))),
            (lambda hand, x, row: x > 0, ("less", ZERO, X)), (lambda hand, x, row: x != 1, ("unlike", ("equal", X, ONE), TRUE)),
            (lambda hand, x, row: row.has(x), ("has", Y, X, 0)), (lambda hand, x, row: hand.same(row, hand.row("p")), ("same", Y, P)),
            (lambda hand, x, row: (x < 2) & True, ("and", ("less", X, TWO), TRUE)),
            (lambda hand, x, row: row.has(0) | (x == 0), ("or", ("has", Y, ZERO, 0), ("equal", X, ZERO))),
            (lambda hand, x, row: False ^ (x == 0), ("unlike", ("false",), ("equal", X, ZERO))),
        ]
        for (make, node), (x, name) in itertools.product(conditions, itertools.product(range(4), "pq")):
            truths = []

            def work(hand, x, row):
                truths.append(hand.holds(make(hand, x, row), "g"))
                return 0

            self.check(work, (("guard", node, self.truth(make, x, name)),), ("gives", ZERO), "nr", (x, name), G)
            self.assertIs(truths[0], self.truth(make, x, name))
            self.check(work, (), ("gives", ZERO), "nr", (x, name), Plan())
            self.check(work, (), ("gives", ZERO), "nr", (x, name), Plan(("e", "h")))

    def truth(self, make, x, name):
        """What a condition tells in the plain run."""
        seen = []

        def work(hand, x, row):
            seen.append(make(hand, x, row))
            return 0

        plainly(setup_of(work, "nr"), small_world().first, ("call", "work", (x, name)))
        return seen[0]

    def test_truths_that_are_settled(self):
        def work(hand):
            hand.put("c", 2)
            for truth in (True, False, hand.cell("c") == 2, hand.cell("c") < 1, hand.same(hand.row("p"), hand.row("p"))):
                hand.holds(truth, "g")
            hand.holds((hand.cell("c") == 2) & True, "g")
            return 0

        self.check(work, (("put", "c", TWO),), ("gives", ZERO), plan=Plan(("g",), known=True))
        guard = ("guard", ("equal", ("cell", "c", 1), TWO), True)
        less = ("guard", ("less", ("cell", "c", 1), ONE), False)
        both = ("guard", ("and", ("equal", ("cell", "c", 1), TWO), TRUE), True)
        self.check(work, (("put", "c", TWO), guard, less, both), ("gives", ZERO), plan=G)

    def test_truths_asked_past_the_hand(self):
        def work(hand, x, row):
            return 1 if x < 2 and row.has(0) and len(row) == 1 else 0

        for x, name in itertools.product(range(4), "pq"):
            self.check(work, (), ("gives", ("known", int(x < 2 and name == "p"))), "nr", (x, name), G)

    def test_fine(self):
        def work(hand, x):
            hand.fine(x + 1, "g")
            hand.fine(2, "g")
            hand.fine(Number(4, 1), "g")
            hand.fine(x, "h")
            return hand.fine(x, "g")

        self.check(work, (("fine", ("do", "+", X, ONE)), ("fine", X)), ("gives", X), "n", (3,), G)
        self.check(work, (("fine", X),), ("gives", X), "n", (3,), Plan(("h",)))
        self.check(work, (), ("gives", X), "n", (3,), Plan())

        def known(hand):
            hand.put("c", 2)
            return hand.fine(hand.cell("c"), "g")

        self.check(known, (("put", "c", TWO),), ("gives", TWO), plan=Plan(("g",), known=True))
        self.check(known, (("put", "c", TWO), ("fine", ("cell", "c", 1))), ("gives", ("cell", "c", 1)), plan=G)

    def test_guards_and_fines_stand_as_they_come(self):
        def work(hand, x):
            hand.holds(x == 0, "h")
            hand.put("c", x)
            hand.fine(hand.cell("c"), "e")
            hand.holds(hand.cell("d") == x, "h")
            return 1

        guard, put = ("guard", ("equal", X, ZERO), False), ("put", "c", X)
        fine, last = ("fine", ("cell", "c", 1)), ("guard", ("equal", ("cell", "d", 1), X), False)
        self.check(work, (guard, put, fine, last), ("gives", ONE), "n", (2,), Plan(("e", "h")))
        self.check(work, (guard, put, last), ("gives", ONE), "n", (2,), Plan(("g", "h")))
        self.check(work, (put, fine), ("gives", ONE), "n", (2,), Plan(("e",)))

    def test_writes_and_times(self):
        def work(hand, one, two, x):
            hand.put("c", x)
            one[0] = hand.cell("c")
            two += one[0]
            hand.put("d", two[0] + 1)
            return hand.cell("d") + hand.row("p")[0]

        steps = (("put", "c", ("arg", 2)), ("set", X, ZERO, ("cell", "c", 1)), ("push", Y, ("item", X, ZERO, 2)),
                 ("put", "d", ("do", "+", ("item", Y, ZERO, 3), ONE)))
        end = ("gives", ("do", "+", ("cell", "d", 4), ("item", P, ZERO, 4)))
        self.check(work, steps, end, "rrn", ("p", "q", 3), told=("gives", 3))

    def test_a_row_handed_in_once_twice_and_by_name(self):
        def work(hand, one, two):
            two[0] = 2
            hand.row("p")[0] = one[0] + 1
            hand.holds(one[0] == two[0], "g")
            hand.holds(hand.same(one, two), "g")
            return one[0]

        steps = [("set", Y, ZERO, TWO), ("set", P, ZERO, ("do", "+", ("item", X, ZERO, 1), ONE))]
        steps += [("guard", ("equal", ("item", X, ZERO, 2), ("item", Y, ZERO, 2)), True), ("guard", ("same", X, Y), True)]
        self.check(work, steps, ("gives", ("item", X, ZERO, 2)), "rr", ("p", "p"), G, ("gives", 3))
        world = World(4, 2, (), (("p", (1,)), ("q", (1,))))
        steps[3] = ("guard", ("same", X, Y), False)
        steps[2] = ("guard", ("equal", ("item", X, ZERO, 2), ("item", Y, ZERO, 2)), True)
        self.check(work, steps, ("gives", ("item", X, ZERO, 2)), "rr", ("p", "q"), G, ("gives", 2), world)

    def test_a_sign_that_nobody_uses(self):
        self.check(lambda hand, x: [x + 1, x // 2, x == 1, 0][3], (), ("gives", ZERO), "n", (1,), G)


class Known(Written):

    plan = Plan(("g",), known=True)

    def test_cells(self):
        def work(hand, x):
            first = hand.cell("c")
            hand.put("c", x + 1)
            second = hand.cell("c")
            hand.put("d", 2)
            hand.put("c", 3)
            return first + second + hand.cell("c") + hand.cell("d")

        steps = (("put", "c", ("do", "+", X, ONE)), ("put", "d", TWO), ("put", "c", ("known", 3)))
        first = ("do", "+", ("cell", "c", 0), ("do", "+", X, ONE))
        end = ("gives", ("do", "+", ("do", "+", first, ("known", 3)), TWO))
        self.check(work, steps, end, "n", (2,), self.plan)
        plain = ("do", "+", ("cell", "c", 0), ("cell", "c", 1))
        end = ("gives", ("do", "+", ("do", "+", plain, ("cell", "c", 3)), ("cell", "d", 3)))
        self.check(work, steps, end, "n", (2,), G)

    def item(self, work, node, kinds="", values=(), plan=None, world=None):
        """The node that a work answers."""
        found = tape_of(work, kinds, values, plan or self.plan, world)
        self.assertEqual(found[2].end, ("gives", node))

    def test_items_by_the_same_index(self):
        def work(hand, row, x):
            row[x] = 3
            return row[x]

        self.item(work, ("known", 3), "rn", ("p", 0))
        self.item(work, ("item", X, Y, 1), "rn", ("p", 0), G)

        def number(hand, row):
            row[0] = hand.cell("c")
            return row[Number(4, 0)]

        self.item(number, ("cell", "c", 0), "r", ("p",))

    def test_items_by_another_index(self):
        def work(hand, row, x):
            row[x] = 3
            return row[0]

        self.item(work, ("item", X, ZERO, 1), "rn", ("p", 0))

        def back(hand, row, x):
            row[x] = 3
            row[0] = 2
            return row[x]

        self.item(back, ("item", X, Y, 2), "rn", ("p", 0))

        def again(hand, row, x):
            row[x] = 3
            row[0] = 2
            row[x] = hand.cell("c")
            return row[x]

        self.item(again, ("cell", "c", 2), "rn", ("p", 0))

    def test_the_last_one_that_was_set(self):
        def work(hand, row):
            row[0] = 3
            row[0] = hand.cell("c")
            return row[0]

        self.item(work, ("cell", "c", 1), "r", ("p",))

    def test_a_push_between(self):
        def work(hand, row):
            row[0] = 3
            row += 2
            return row[0]

        self.item(work, ("item", X, ZERO, 2), "r", ("p",))

        def full(hand, row):
            row += 2
            row[0] = 3
            hand.tried(lambda: row.__iadd__(1), lambda word: 0)
            hand.tried(lambda: row.__setitem__(3, 1), lambda word: 0)
            return row[0]

        self.item(full, ("known", 3), "r", ("p",))

        def pushed(hand, row):
            row += 3
            return row[0]

        self.item(pushed, ("item", X, ZERO, 1), "r", ("q",))

    def test_what_other_carried_rows_write_is_not_looked_at(self):
        def work(hand, one, two):
            one[0] = 3
            two[0] = 3
            two += 1
            hand.row("p")[1] = 2
            return one[0]

        self.item(work, ("known", 3), "rr", ("p", "p"))

        def other(hand, one, two):
            one[0] = 3
            two[0] = 2
            return one[0]

        self.item(other, ("item", X, ZERO, 2), "rr", ("p", "p"))
        self.item(other, ("known", 3), "rr", ("p", "q"), world=World(4, 1, (), (("p", (1,)), ("q", (1,)))))

    def test_rows_by_name_know_as_well(self):
        def work(hand):
            hand.row("p")[0] = 3
            return hand.row("p")[0]

        self.item(work, ("known", 3))

    def test_an_index_with_more_than_eight_layers(self):
        def work(hand, row, x):
            index = x
            for _ in range(self.layers - 1):
                index = -index
            row[0] = 2
            row[index] = 3
            return row[index]

        self.layers = 8
        self.item(work, ("known", 3), "rn", ("p", 0))
        self.layers = 9
        self.assertIsNone(tape_of(work, "rn", ("p", 0), self.plan)[2])

    def test_what_such_an_index_knows(self):
        for layers, node in ((7, ("known", 3)), (8, ("known", 3)), (9, None), (10, None)):
            def work(hand, row, x):
                index = x
                for _ in range(layers - 1):
                    index = -index
                row[index] = 3
                return index.node, row[index].node

            index, found = looks(work, "rn", ("p", 0), self.plan)
            self.assertEqual(found, node or ("item", X, index, 1))

    def test_much_deeper_indexes_are_compared_soon(self):
        def work(hand, row, x):
            index, other = x, x
            for _ in range(60):
                index, other = index + index, other + other
            row[index] = 3
            return [row[other], 0][1]

        found = tape_of(work, "rn", ("p", 0), self.plan)
        self.assertEqual((found[0], found[2]), (("gives", 0), None))

    def test_own_works_between(self):
        def work(hand, row, x):
            row[0] = 3
            hand.put("c", 2)
            ahead = row[0] + hand.cell("c")
            hand.tried(lambda: hand.call("other"), lambda word: 0)
            behind = row[0] + hand.cell("c")
            hand.put("c", x)
            return ahead * behind + hand.cell("c")

        for other, steps in ((lambda hand: 1, (("call", "other", ()),)), (lambda hand: hand.fail("no"), (("fails", ("call", "other", ()), "no"),))):
            setup = several(other=(other, ""), work=(work, "rn"))
            ahead = (("set", X, ZERO, ("known", 3)), ("put", "c", TWO))
            behind = ("do", "+", ("item", X, ZERO, 3), ("cell", "c", 3))
            end = ("gives", ("do", "+", ("do", "*", ONE, behind), Y))
            plan = Plan(known=True, own=("other",))
            self.check_calls(setup, "work", ("p", 2), plan, ahead + steps + (("put", "c", Y),), end)
            end = ("gives", ("do", "+", ONE, Y))
            self.check_calls(setup, "work", ("p", 2), Plan(known=True), ahead + (("put", "c", Y),), end)

    def test_an_own_work_that_is_too_deep_is_not_called(self):
        def work(hand, x):
            if x > 0:
                return hand.call("work", x - 1)
            hand.put("c", 2)
            hand.tried(lambda: hand.call("other"), lambda word: 0)
            return hand.cell("c")

        setup = several(other=(lambda hand: 1, ""), work=(work, "n"))
        plan = Plan(known=True, own=("other",))
        self.check_calls(setup, "work", (2,), plan, (("put", "c", TWO),), ("gives", TWO))
        steps = (("put", "c", TWO), ("call", "other", ()))
        self.check_calls(setup, "work", (1,), plan, steps, ("gives", ("cell", "c", 2)))


class Faults(Written):

    def ways(self):
        """Ways to fault, with the word and what is written of each."""
        return [
            (lambda hand, row, x: 3 // x, "zero", ("do", "//", ("known", 3), Y)),
            (lambda hand, row, x: x // 0, "zero", ("do", "//", Y, ZERO)),
            (lambda hand, row, x: x // (x - x) + 1, "zero", ("do", "//", Y, ("do", "-", Y, Y))),
            (lambda hand, row, x: row[x + 2], "index", ("item", X, ("do", "+", Y, TWO), 0)),
            (lambda hand, row, x: row[Number(4, 3)] + 1, "index", ("item", X, ("known", 3), 0)),
            (lambda hand, row, x: row.__setitem__(2, x), "index", ("place", X, TWO, 0)),
            (lambda hand, row, x: row.__setitem__(x + 3, 1), "index", ("place", X, ("do", "+", Y, ("known", 3)), 0)),
            (lambda hand, row, x: row.__iadd__(x), "full", ("room", X, 0)),
            (lambda hand, row, x: hand.fail("own"), "own", None),
            (lambda hand, row, x: Number(4, 1) // Number(4, 0), "zero", None),
        ]

    world = World(4, 2, (("c", 1),), (("p", (1, 2)),))

    def check_way(self, work, steps, end):
        self.check(work, steps, end, "rn", ("p", 0), G, world=self.world)

    def test_what_is_tried(self):
        for way, word, what in self.ways():
            def work(hand, row, x):
                return hand.tried(lambda: way(hand, row, x), lambda told: 2 if told == word else 1)

            fails = () if what is None else (("fails", what, word),)
            self.check_way(work, fails, ("gives", TWO))

    def test_what_ends_the_run(self):
        for way, word, what in self.ways():
            fails = () if what is None else (("fails", what, word),)
            self.check_way(lambda hand, row, x: way(hand, row, x), fails, ("faults", (word,)))

    def test_behind_the_steps_that_are_there(self):
        for way, word, what in self.ways():
            def work(hand, row, x):
                def look():
                    hand.holds(x == 0, "g")
                    way(hand, row, x)

                hand.holds(x < 2, "g")
                hand.tried(look, lambda told: hand.holds(x < 1, "g"))
                return 1

            fails = () if what is None else (("fails", what, word),)
            guards = [("guard", ("less", Y, TWO), True), ("guard", ("equal", Y, ZERO), True), ("guard", ("less", Y, ONE), True)]
            self.check_way(work, (*guards[:2], *fails, guards[2]), ("gives", ONE))

    def test_the_time_is_that_of_the_thing(self):
        def work(hand, row, x):
            hand.put("c", 1)
            hand.tried(lambda: row.__iadd__(x), lambda told: hand.put("c", 2))
            hand.tried(lambda: row.__setitem__(3, 0), lambda told: 0)
            return row[3]

        steps = (("put", "c", ONE), ("fails", ("room", X, 1), "full"), ("put", "c", TWO),
                 ("fails", ("place", X, ("known", 3), 2), "index"), ("fails", ("item", X, ("known", 3), 2), "index"))
        self.check_way(work, steps, ("faults", ("index",)))

    def test_faults_on_either_side(self):
        for (way, word, what), (second, other, behind) in itertools.product(self.ways(), repeat=2):
            def work(hand, row, x):
                return hand.tried(lambda: way(hand, row, x), lambda told: second(hand, row, x))

            fails = [("fails", part, told) for part, told in ((what, word), (behind, other)) if part]
            self.check_way(work, fails, ("faults", (other, word)))

    def test_tried_within_tried(self):
        def work(hand, row, x):
            def look():
                return hand.tried(lambda: 3 // x, lambda word: row[3])

            return hand.tried(look, lambda word: hand.tried(lambda: hand.fail("no"), lambda word: row.__iadd__(1)))

        steps = (("fails", ("do", "//", ("known", 3), Y), "zero"), ("fails", ("item", X, ("known", 3), 0), "index"),
                 ("fails", ("room", X, 0), "full"))
        self.check_way(work, steps, ("faults", ("full", "no", "index")))

    def test_the_word_that_is_told_is_the_first(self):
        words = []

        def work(hand, row, x):
            def look():
                return hand.tried(lambda: row[3], lambda word: words.append(word) or 3 // x)

            return hand.tried(look, lambda word: words.append(word) or 1)

        steps = (("fails", ("item", X, ("known", 3), 0), "index"), ("fails", ("do", "//", ("known", 3), Y), "zero"))
        self.check_way(work, steps, ("gives", ONE))
        self.assertEqual(words, ["index", "zero"] * 2)

    def test_signs_of_known_nodes_write_nothing(self):
        def work(hand):
            hand.put("c", 0)
            return hand.tried(lambda: 1 // hand.cell("c"), lambda word: 1)

        steps = (("put", "c", ZERO),)
        self.check(work, steps, ("gives", ONE), plan=Plan(known=True))
        fails = (("fails", ("do", "//", ONE, ("cell", "c", 1)), "zero"),)
        self.check(work, steps + fails, ("gives", ONE))

    def test_of_a_called_work(self):
        def inner(hand, x):
            return 3 // x

        for own in ((), ("inner",)):
            setup = several(inner=(inner, "n"), outer=(lambda hand, x: hand.tried(lambda: hand.call("inner", x), lambda word: 1), "n"))
            what = ("call", "inner", (X,)) if own else ("do", "//", ("known", 3), X)
            self.check_calls(setup, "outer", (0,), Plan(own=own), (("fails", what, "zero"),), ("gives", ONE))
            setup = several(inner=(inner, "n"), outer=(lambda hand, x: hand.call("inner", x), "n"))
            self.check_calls(setup, "outer", (0,), Plan(own=own), (("fails", what, "zero"),), ("faults", ("zero",)))

    def test_faults_of_own_works_whatever_raised_them(self):
        def deep(hand):
            return hand.call("inner")

        ways = {"no": lambda hand: hand.fail("no"), "kind": lambda hand: None, "zero": lambda hand: Number(4, 1) // 0,
                "index": lambda hand: hand.row("q")[0], "deep": deep}
        for word, way in ways.items():
            for own in ((), ("inner",)):
                setup = several(inner=(way, ""), outer=(lambda hand: hand.call("inner"), ""))
                found = taped(setup, Plan(own=own), setup.world.first, "outer", ())
                self.assertEqual(found[2].end, ("faults", (word,)))
                steps = (("fails", ("call", "inner", ()), word),) if own else ()
                if word == "index" and not own:
                    steps = (("fails", ("item", Q, ZERO, 0), "index"),)
                self.assertEqual(found[2].steps, steps)

    def test_causes_of_own_works(self):
        def inner(hand):
            return hand.tried(lambda: hand.fail("a"), lambda word: hand.fail("b"))

        setup = several(inner=(inner, ""), outer=(lambda hand: hand.tried(lambda: hand.call("inner"), lambda word: hand.fail("c")), ""))
        steps = (("fails", ("call", "inner", ()), "b"),)
        self.check_calls(setup, "outer", (), Plan(own=("inner",)), steps, ("faults", ("c", "b", "a")))
        setup = several(inner=(inner, ""), outer=(lambda hand: hand.call("inner"), ""))
        self.check_calls(setup, "outer", (), Plan(own=("inner",)), steps, ("faults", ("b", "a")))

    def test_deep_and_kind_write_nothing(self):
        def work(hand):
            return hand.tried(lambda: hand.call("work"), lambda word: hand.put("c", 2) or hand.fail("no"))

        found = tape_of(work)
        self.assertEqual((found[2].steps, found[2].end), ((("put", "c", TWO),) * 3, ("faults", ("no", "no", "no"))))
        setup = several(inner=(lambda hand: True, ""), outer=(lambda hand: hand.tried(lambda: hand.call("inner"), lambda word: 2), ""))
        self.check_calls(setup, "outer", (), Plan(), (), ("gives", TWO))


class Calls(Written):

    def test_works_that_are_run_on_this_tape(self):
        def inner(hand, row, x):
            hand.holds(x == 1, "g")
            row += x
            hand.put("c", hand.cell("c") + 1)
            return row[0] + x

        def outer(hand, row, x):
            hand.put("d", x)
            return hand.call("inner", row, x + 1) + hand.call("inner", hand.row("p"), 1) + hand.call("inner", row, x)

        setup = several(inner=(inner, "rn"), outer=(outer, "rn"))
        found = taped(setup, G, setup.world.first, "outer", ("q", 0))
        more = ("do", "+", Y, ONE)
        steps = (("put", "d", Y), ("guard", ("equal", more, ONE), True), ("push", X, more),
                 ("put", "c", ("do", "+", ("cell", "c", 2), ONE)), ("push", P, ONE),
                 ("put", "c", ("do", "+", ("cell", "c", 4), ONE)), ("guard", ("equal", Y, ONE), False), ("push", X, Y),
                 ("put", "c", ("do", "+", ("cell", "c", 6), ONE)))
        one = ("do", "+", ("item", X, ZERO, 3), more)
        two = ("do", "+", ("item", P, ZERO, 5), ONE)
        three = ("do", "+", ("item", X, ZERO, 7), Y)
        self.assertEqual(found[2].steps, steps)
        self.assertEqual(found[2].end, ("gives", ("do", "+", ("do", "+", one, two), three)))
        self.assertEqual(found[:2], plainly(setup, setup.world.first, ("call", "outer", ("q", 0))))

    def test_answers_are_carried_as_they_are(self):
        for answer, node in ((2, TWO), (Number(4, 2), TWO)):
            setup = several(inner=(lambda hand: answer, ""), outer=(lambda hand, x: x + hand.call("inner"), "n"))
            self.check_calls(setup, "outer", (1,), Plan(), (), ("gives", ("do", "+", X, node)))
            setup = several(inner=(lambda hand: answer, ""), outer=(lambda hand: hand.call("inner") + 1, ""))
            self.check_calls(setup, "outer", (), Plan(), (), ("gives", ("known", 3)))
        setup = several(inner=(lambda hand: hand.cell("c"), ""), outer=(lambda hand, x: x + hand.call("inner"), "n"))
        self.check_calls(setup, "outer", (1,), Plan(), (), ("gives", ("do", "+", X, ("cell", "c", 0))))

    def test_rows_by_name_are_one_in_works_on_this_tape(self):
        def inner(hand):
            hand.row("p")[0] = 3
            return hand.row("p")[0]

        setup = several(inner=(inner, ""), outer=(lambda hand: [hand.call("inner"), hand.row("p")[0]][1], ""))
        self.check_calls(setup, "outer", (), Plan(known=True), (("set", P, ZERO, ("known", 3)),), ("gives", ("known", 3)))

    def test_own_works(self):
        def inner(hand, row, x):
            row += x
            return row[0]

        def outer(hand, row, x):
            one = hand.call("inner", row, x + 1)
            hand.put("c", one)
            two = hand.call("inner", hand.row("q"), one)
            return one * two + hand.cell("c")

        setup = several(inner=(inner, "rn"), outer=(outer, "rn"))
        steps = (("call", "inner", (X, ("do", "+", Y, ONE))), ("put", "c", ("result", 0)), ("call", "inner", (Q, ("result", 0))))
        end = ("gives", ("do", "+", ("do", "*", ("result", 0), ("result", 2)), ("cell", "c", 3)))
        plan = Plan(own=("inner",))
        self.check_calls(setup, "outer", ("p", 1), plan, steps, end, ("gives", 2))

    def test_own_works_get_plain_values_and_tell_plain_answers(self):
        seen = []

        def inner(hand, x, one, two):
            seen.append((x.node, x.worth, hand.same(one, two).node, bool(hand.same(one, two)), two[0].node))
            return x

        setup = several(inner=(inner, "nrr"), outer=(lambda hand, one, two, x: hand.call("inner", x + 1, one, two), "rrn"))
        found = taped(setup, Plan(own=("inner",)), setup.world.first, "outer", ("p", "p", 1))
        self.assertEqual(seen, [(X, 2, ("same", ("arg", 1), ("arg", 2)), True, ("item", ("arg", 2), ZERO, 0))])
        values = (("do", "+", ("arg", 2), ONE), ("arg", 0), ("arg", 1))
        self.assertEqual((found[2].steps, found[2].end), ((("call", "inner", values),), ("gives", ("result", 0))))
        self.assertEqual(found[:2], (("gives", 2), setup.world.first))

    def test_keepers_are_without_tapes_at_first_and_tape_in_the_run(self):
        runs = []

        def inner(hand, x):
            runs.append(x.worth)
            return x + 1

        setup = several(inner=(inner, "n"), outer=(lambda hand, x: hand.call("inner", x) + hand.call("inner", x + 1), "n"))
        plan = Plan(own=("inner",))
        for _ in range(2):
            found = taped(setup, plan, setup.world.first, "outer", (1,))
            self.assertEqual(found[0], ("gives", 1))
        self.assertEqual(runs, [1, 1])
        taped(setup, Plan(), setup.world.first, "outer", (1,))
        self.assertEqual(runs[2:], [1, 2])

    def test_an_own_work_that_is_taped_wrong_is_told_wrong(self):
        def inner(hand, x):
            return 1 if x == 0 else 0

        setup = several(inner=(inner, "n"), outer=(lambda hand: hand.call("inner", 0) + hand.call("inner", 1), ""))
        self.assertEqual(taped(setup, Plan(own=("inner",)), setup.world.first, "outer", ())[0], ("gives", 2))
        self.assertEqual(taped(setup, Plan(), setup.world.first, "outer", ())[0], ("gives", 1))

    def test_the_work_itself_may_be_own(self):
        def work(hand, x):
            return 0 if hand.holds(x == 0, "g") else hand.call("work", x - 1) + 1

        guard = ("guard", ("equal", X, ZERO), False)
        found = tape_of(work, "n", (2,), Plan(("g",), own=("work",)))
        steps = (guard, ("call", "work", (("do", "-", X, ONE),)))
        self.assertEqual(found[2].steps, steps)
        self.assertEqual((found[0], found[2].end), (("gives", 2), ("gives", ("do", "+", ("result", 1), ONE))))
        found = tape_of(work, "n", (3,), Plan(("g",), own=("work",)))
        steps = (guard, ("fails", ("call", "work", (("do", "-", X, ONE),)), "deep"))
        self.assertEqual((found[2].steps, found[2].end), (steps, ("faults", ("deep",))))


class NoTape(Written):

    def none(self, work, told=None, kinds="", values=(), plan=None):
        found = tape_of(work, kinds, values, plan)
        self.assertIsNone(found[2])
        plain = plainly(setup_of(work, kinds), small_world().first, ("call", "work", values))
        self.assertEqual(found[:2], plain)
        if told:
            self.assertEqual(found[0], told)

    def test_long(self):
        def things(many):
            def work(hand):
                for _ in range(many):
                    hand.cell("c")
                return 1
            return work

        self.check(things(40), (), ("gives", ONE))
        self.none(things(41), ("faults", ("long",)))
        self.none(lambda hand: hand.tried(lambda: hand.fail("a"), lambda word: things(40)(hand)), ("faults", ("long", "a")))
        self.none(lambda hand: hand.fail("long"), ("faults", ("long",)))

    def test_each_thing_is_counted(self):
        ways = [
            lambda hand, row: hand.holds(True, "g"), lambda hand, row: hand.fine(1, "g"), lambda hand, row: hand.cell("c"),
            lambda hand, row: hand.put("c", 3), lambda hand, row: hand.row("p"), lambda hand, row: hand.same(row, row),
            lambda hand, row: hand.call("other"), lambda hand, row: hand.tried(lambda: 1, lambda word: 1),
            lambda hand, row: row.__setitem__(0, 2), lambda hand, row: row.__iadd__(2), lambda hand, row: hand.fail("no"),
        ]
        for way, ahead, own in itertools.product(ways, (0, 39, 40), ((), ("other",))):
            def work(hand, row):
                for _ in range(ahead):
                    hand.cell("c")
                way(hand, row)
                return 1

            setup = several(other=(lambda hand: [hand.put("d", 2), 0][1], ""), work=(work, "r"))
            found = taped(setup, Plan(own=own), setup.world.first, "work", ("p",))
            self.assertEqual(found[:2], plainly(setup, setup.world.first, ("call", "work", ("p",))))
            if ahead == 40:
                self.assertEqual((found[0], found[1], found[2]), (("faults", ("long",)), setup.world.first, None))
            else:
                self.assertNotEqual(found[0], ("faults", ("long",)))
                self.assertIsNotNone(found[2])

    def test_things_of_a_called_work_are_its_own(self):
        def inner(hand, row):
            for _ in range(39):
                hand.cell("c")
            row[0] = 3
            return 1

        def outer(hand, row):
            for _ in range(39):
                hand.cell("c")
            return hand.call("inner", row)

        for own in ((), ("inner",)):
            setup = several(inner=(inner, "r"), outer=(outer, "r"))
            found = taped(setup, Plan(own=own), setup.world.first, "outer", ("p",))
            self.assertEqual(found[:2], (("gives", 1), ((1, 0), ((3,), ()))))

    def test_a_long_with_a_cause_is_taken_by_no_other(self):
        def other(word):
            raise AssertionError(word)

        def work(hand):
            def inner(word):
                for _ in range(41):
                    hand.cell("c")

            return hand.tried(lambda: hand.tried(lambda: hand.fail("a"), inner), other)

        self.none(work, ("faults", ("long", "a")))

    def test_a_work_on_this_tape_or_own_that_is_long(self):
        def inner(hand):
            for _ in range(41):
                hand.put("c", hand.cell("c") + 1)

        for own in ((), ("inner",)):
            setup = several(inner=(inner, ""), outer=(lambda hand: hand.tried(lambda: hand.call("inner"), lambda word: 1), ""))
            found = taped(setup, Plan(own=own), setup.world.first, "outer", ())
            self.assertEqual((found[0], found[2]), (("faults", ("long",)), None))

    def test_sixty_steps_and_sixty_one(self):
        def outer(hand, x):
            for _ in range(29):
                hand.put("c", x)
            hand.call("inner", x)
            if x > 2:
                hand.put("c", x)
            return x

        def inner(hand, x):
            for _ in range(31):
                hand.put("d", x)
            return x

        setup = several(inner=(inner, "n"), outer=(outer, "n"))
        put = (("put", "c", X),) * 29 + (("put", "d", X),) * 31
        self.check_calls(setup, "outer", (2,), Plan(), put, ("gives", X))
        found = taped(setup, Plan(), setup.world.first, "outer", (3,))
        self.assertEqual(found, (*plainly(setup, setup.world.first, ("call", "outer", (3,))), None))

    def test_a_fails_that_is_one_too_many(self):
        def outer(hand, x):
            for _ in range(30):
                hand.put("c", x)
            hand.call("inner", x)
            return 1 // x

        def inner(hand, x):
            for _ in range(30):
                hand.put("d", x)
            return x

        setup = several(inner=(inner, "n"), outer=(outer, "n"))
        self.assertEqual(len(taped(setup, Plan(), setup.world.first, "outer", (1,))[2].steps), 60)
        found = taped(setup, Plan(), setup.world.first, "outer", (0,))
        self.assertEqual((found[0], found[2]), (("faults", ("zero",)), None))

    def deep(self, x, depth):
        for _ in range(depth - 1):
            x = x + 1
        return x

    def test_eight_deep_and_nine(self):
        ways = [
            lambda hand, x, depth: self.deep(x, depth), lambda hand, x, depth: hand.fine(self.deep(x, depth), "g") * 0 // 1 and 0,
            lambda hand, x, depth: hand.put("c", self.deep(x, depth)) or 0,
            lambda hand, x, depth: hand.holds(self.deep(x, depth - 1) == 1, "g") and 0 or 0,
            lambda hand, x, depth: hand.row("p").__setitem__(0, self.deep(x, depth)) or 0,
            lambda hand, x, depth: hand.row("p").__setitem__(self.deep(x, depth), 0) or 0,
            lambda hand, x, depth: hand.row("p").__iadd__(self.deep(x, depth)) and 0,
            lambda hand, x, depth: hand.tried(lambda: 1 // (self.deep(x, depth - 1)), lambda word: 0),
        ]
        for k, way in enumerate(ways):
            x = {5: 1, 7: 2}.get(k, 3)
            work = lambda hand, x: way(hand, x, 8)
            self.assertIsNotNone(tape_of(work, "n", (x,), G)[2], k)
            self.none(lambda hand, x: way(hand, x, 9), None, "n", ({5: 0, 7: 1}.get(k, 3),), G)

    def test_a_condition_same_is_one_deep(self):
        def work(depth):
            def asks(hand, row):
                truth = hand.same(row, hand.row("p"))
                for _ in range(depth - 1):
                    truth = truth ^ True
                hand.holds(truth, "g")
                return 0
            return asks

        for name in ("p", "q"):
            steps = tape_of(work(8), "r", (name,), G)[2].steps
            condition, truth = steps[0][1:]
            for _ in range(7):
                self.assertEqual((condition[0], condition[2]), ("unlike", ("true",)))
                condition = condition[1]
            self.assertEqual((len(steps), condition, truth), (1, ("same", ("arg", 0), ("row", "p")), name == "q"))
            self.none(work(9), None, "r", (name,), G)

    def test_a_guard_that_is_not_written_may_be_deep(self):
        work = lambda hand, x: int(hand.holds(self.deep(x, 20) == 1, "g")) * 0
        self.check(work, (), ("gives", ZERO), "n", (1,))
        self.none(work, None, "n", (1,), G)

    def test_what_grows_and_grows_is_told_soon(self):
        def work(hand, x):
            for _ in range(200):
                x = x + x
            hand.put("c", x)
            return x

        self.none(work, ("gives", 0), "n", (1,))


class Calling(unittest.TestCase, Refusing):

    setup = Setup(small_world(), (("a", lambda hand: 0, ""), ("b", lambda hand, x, row: x, "nr")), 1)

    def test_what_is_refused(self):
        stand = self.setup.world.first
        fitting, other = Plan(own=("b",)), Plan(own=("c",))
        for value in any_values() + [((1, 0), ((1,),)), ((1, 4), ((1,), ())), ((1, 0), ((1,), [])), ((), ())]:
            self.refused(BadPlan, other, taped, self.setup, other, value, value, value)
            self.refused(BadStand, value, taped, self.setup, fitting, value, value, value)
            self.refused(BadStand, value, taped, self.setup, fitting, value, "b", (0, "p"))
            self.refused(NoWork, value, taped, self.setup, fitting, stand, value, value) if value != "a" else None
            if value != ():
                self.refused(BadValues, value, taped, self.setup, fitting, stand, "a", value)
            self.refused(BadValues, value, taped, self.setup, fitting, stand, "b", value)
            self.refused(BadValues, value, taped, values=value, name="b", stand=stand, plan=fitting, setup=self.setup)
        for value in ("c", "", "ab", "A", ("a",), "call", "p"):
            self.refused(NoWork, value, taped, self.setup, fitting, stand, value, ())
        for value in ((0,), ("p", 0), (0, "c"), (4, "p"), (True, "p"), [0, "p"], (0, "p", 0), (-1, "p"), (Number(4, 0), "p")):
            self.refused(BadValues, value, taped, self.setup, fitting, stand, "b", value)

    def test_by_name_and_from_any_stand(self):
        stand = ((3, 2), ((), (0, 1)))
        found = taped(values=(2, "q"), name="b", stand=stand, plan=Plan(), setup=self.setup)
        self.assertEqual(found[:2], (("gives", 2), stand))
        self.assertEqual(found[2], Tape(self.setup.world, "nr", (), ("gives", X)))
        self.assertIs(found[2].world, self.setup.world)

    def test_the_function_is_as_listed(self):
        self.assertEqual(taped.__module__, "tapedonce.taping")
        self.assertEqual([*inspect.signature(taped).parameters], ["setup", "plan", "stand", "name", "values"])


class Scripts(unittest.TestCase):
    """Works made by chance, beside the reckoning of the tests."""

    worlds = [
        World(2, 1, (("c", 1),), ()), World(3, 2, (), (("p", (1,)), ("q", ()))),
        World(4, 2, (("c", 1), ("d", 3)), (("p", (2,)),)), World(2, 1, (("c", 0),), (("p", ()), ("q", (1,)))),
    ]

    def test_all_calls_of_many_setups(self):
        for seed in range(400):
            world = self.worlds[seed // 100]
            rows = "r" if world.rows else "n"
            kinds = [{"v": "n", "w": ""}, {"u": "n", "v": rows, "w": ""}, {"w": rows + "n"}][seed % 3]
            maker = Maker(seed, world.size, [name for name, _ in world.cells], [name for name, _ in world.rows], kinds)
            scripts = {name: maker.script(name) for name in kinds}
            works = tuple((name, work_of(world.size, scripts[name]), kinds[name]) for name in kinds)
            setup, stand = Setup(world, works, 1 + seed % 2), world.first
            plan = Plan(GUARDS[:seed % 4], known=seed % 5 < 2, held=seed % 7 < 4, own=tuple(sorted(kinds))[:seed % 11 % 3])
            for deed in setup.deeds[:12]:
                found = taped(setup, plan, stand, deed[1], deed[2])
                field = Field(world, scripts, kinds, setup.places)
                field.lay(stand)
                told, text = taping(field, plan, deed[1], deed[2], 1)
                self.assertEqual(found[:2], (told, field.stand()), (seed, deed))
                self.assertEqual(found[2] and (found[2].steps, found[2].end), text, (seed, deed))
                if not plan.own:
                    self.assertEqual(found[:2], plainly(setup, stand, deed))
                stand = found[1]


class Examples(unittest.TestCase):

    def test_least(self):
        def least(hand, x):
            return [hand.cell("c"), x][int(hand.holds(x < hand.cell("c"), "g"))]

        setup = Setup(World(3, 1, (("c", 1),), ()), (("least", least, "n"),), 1)
        found = taped(setup, Plan(("g",)), ((1,), ()), "least", (0,))
        told = [("gives", 0), ((1,), ()), (("guard", ("less", ("arg", 0), ("cell", "c", 0)), True),), ("gives", ("arg", 0))]
        self.assertEqual([found[0], found[1], found[2].steps, found[2].end], told)

    def test_share(self):
        def share(hand, x):
            return [hand.put("c", hand.cell("c") + 1), hand.tried(lambda: 3 // x, lambda word: 0)][1]

        setup = Setup(World(4, 1, (("c", 3),), ()), (("share", share, "n"),), 1)
        found = taped(setup, Plan(), ((3,), ()), "share", (0,))
        steps = (("put", "c", ("do", "+", ("cell", "c", 0), ("known", 1))), ("fails", ("do", "//", ("known", 3), ("arg", 0)), "zero"))
        self.assertEqual([found[0], found[2].steps, found[2].end], [("gives", 0), steps, ("gives", ("known", 0))])


if __name__ == "__main__":
    unittest.main()
