"""Section 7: carried numbers, rows and conditions, looked at from within works."""

import itertools
import operator
import unittest

from tapedonce.errors import Fault
from tapedonce.numbers import Number
from tapedonce.plans import Plan
from tapedonce.taping import taped
from tapedonce.worlds import Setup, World
from tests.making import looks, small_world, tape_of
from tests.values import is_plain

SIZES = (2, 3, 4)

SIGNS = {"+": operator.add, "-": operator.sub, "*": operator.mul, "//": operator.floordiv}

COMPARISONS = {
    "==": operator.eq, "!=": operator.ne, "<": operator.lt, "<=": operator.le, ">": operator.gt, ">=": operator.ge,
}

TRUE, FALSE = ("true",), ("false",)


def bare(size):
    return World(size, 1, (), ())


def known(n):
    return ("known", n)


def settled(truth):
    return TRUE if truth else FALSE


def reckoned_node(sign, one, other, truth):
    """The node of a comparison, by the words of section 7; one and other are nodes."""
    word, left, right = {
        "==": ("equal", one, other), "!=": ("equal", one, other), "<": ("less", one, other), ">": ("less", other, one),
        ">=": ("less", one, other), "<=": ("less", other, one),
    }[sign]
    if left[0] == right[0] == "known":
        return settled(truth)
    node = (word, left, right)
    return node if sign in ("==", "<", ">") else ("unlike", node, TRUE)


def asked(sign, one, other, is_carried):
    """The comparison that Python asks of the carried side, as (sign, its node, the other's)."""
    if is_carried:
        return sign, one, other
    mirrored = {"==": "==", "!=": "!=", "<": ">", ">": "<", "<=": ">=", ">=": "<="}
    return mirrored[sign], other, one


class Looking(unittest.TestCase):

    def check_number(self, found, size, worth, node):
        self.assertNotIsInstance(found, (int, Number))
        self.assertEqual((found.size, found.worth, found.node), (size, worth, node))
        self.assertTrue(is_plain(found.worth))

    def check_condition(self, found, truth, node):
        self.assertNotIsInstance(found, bool)
        self.assertIs(found.truth, truth)
        self.assertIs(bool(found), truth)
        self.assertEqual(found.node, node)

    def check_fault(self, words, act):
        with self.assertRaises(Fault) as told:
            act()
        self.assertEqual(told.exception.words, words)


class Numbers(Looking):

    def pairs(self):
        for size in SIZES:
            for one, other in itertools.product(range(size), repeat=2):
                yield size, one, other

    def sides(self, size, one, other):
        """Pairs of sides: (left, right, node of left, node of right, whether left is carried)."""
        x, y = looks(lambda hand, x, y: (x, y), "nn", (one, other), world=bare(size))
        self.check_number(x, size, one, ("arg", 0))
        self.check_number(y, size, other, ("arg", 1))
        yield x, y, x.node, y.node, True
        yield x, x, x.node, x.node, True
        for plain in (other, Number(size, other)):
            yield x, plain, x.node, known(other), True
        for plain in (one, Number(size, one)):
            yield plain, y, known(one), y.node, False

    def known_sides(self, size, one, other):
        """Likewise, of carried numbers that are known."""
        def work(hand):
            hand.put("c", one)
            hand.put("d", other)
            return hand.cell("c"), hand.cell("d")

        world = World(size, 1, (("c", 0), ("d", 0)), ())
        x, y = looks(work, plan=Plan(known=True), world=world)
        self.check_number(x, size, one, known(one))
        self.check_number(y, size, other, known(other))
        yield x, y, True
        for plain in (other, Number(size, other)):
            yield x, plain, True
        for plain in (one, Number(size, one)):
            yield plain, y, False

    def worth_of(self, value):
        return value if isinstance(value, int) else value.worth

    def test_signs(self):
        for size, one, other in self.pairs():
            for left, right, first, second, _ in self.sides(size, one, other):
                a, b = self.worth_of(left), self.worth_of(right)
                for sign, act in SIGNS.items():
                    with self.subTest(size=size, sign=sign, one=first, other=second):
                        if sign == "//" and b == 0:
                            self.check_fault(("zero",), lambda: act(left, right))
                        else:
                            self.check_number(act(left, right), size, act(a, b) % size, ("do", sign, first, second))

    def test_signs_of_known_ones_are_known(self):
        for size, one, other in self.pairs():
            for left, right, _ in self.known_sides(size, one, other):
                for sign, act in SIGNS.items():
                    with self.subTest(size=size, sign=sign, one=one, other=other):
                        if sign == "//" and other == 0:
                            self.check_fault(("zero",), lambda: act(left, right))
                        else:
                            worth = act(one, other) % size
                            self.check_number(act(left, right), size, worth, known(worth))

    def test_minus(self):
        for size in SIZES:
            for worth in range(size):
                found = looks(lambda hand, x: (-x, -(-x)), "n", (worth,), world=bare(size))
                self.check_number(found[0], size, -worth % size, ("minus", ("arg", 0)))
                self.check_number(found[1], size, worth, ("minus", ("minus", ("arg", 0))))
                x = next(self.known_sides(size, worth, 0))[0]
                self.check_number(-x, size, -worth % size, known(-worth % size))

    def test_signs_in_signs(self):
        def work(hand, x, y):
            return [(x + 1) * (y - x), x + (1 + 1), 1 + Number(4, 2) + x, -(x // 2) - y]

        found = looks(work, "nn", (3, 2))
        x, y = ("arg", 0), ("arg", 1)
        self.check_number(found[0], 4, 0, ("do", "*", ("do", "+", x, known(1)), ("do", "-", y, x)))
        self.check_number(found[1], 4, 1, ("do", "+", x, known(2)))
        self.check_number(found[2], 4, 2, ("do", "+", known(3), x))
        self.check_number(found[3], 4, 1, ("do", "-", ("minus", ("do", "//", x, known(2))), y))

    def test_comparisons(self):
        for size, one, other in self.pairs():
            for left, right, first, second, is_carried in self.sides(size, one, other):
                a, b = self.worth_of(left), self.worth_of(right)
                for sign, act in COMPARISONS.items():
                    with self.subTest(size=size, sign=sign, one=first, other=second):
                        truth = act(a, b)
                        node = reckoned_node(*asked(sign, first, second, is_carried), truth)
                        self.check_condition(act(left, right), truth, node)

    def test_comparisons_written_out(self):
        def work(hand, x, y):
            return [
                x == y, x < y, x > y, x != y, x >= y, x <= y, 1 < x, Number(4, 1) < x, 1 == x, Number(4, 1) == x,
                1 != x, 1 <= x, 1 >= x, 1 > x,
            ]

        x, y, one = ("arg", 0), ("arg", 1), known(1)
        nodes = [("equal", x, y), ("less", x, y), ("less", y, x), ("unlike", ("equal", x, y), TRUE)]
        nodes += [("unlike", ("less", x, y), TRUE), ("unlike", ("less", y, x), TRUE), ("less", one, x), ("less", one, x)]
        nodes += [("equal", x, one), ("equal", x, one), ("unlike", ("equal", x, one), TRUE)]
        nodes += [("unlike", ("less", x, one), TRUE), ("unlike", ("less", one, x), TRUE), ("less", x, one)]
        truths = [False, True, False, True, False, True, True, True, False, False, True, True, False, False]
        found = looks(work, "nn", (2, 3))
        for condition, truth, node in zip(found, truths, nodes, strict=True):
            self.check_condition(condition, truth, node)

    def test_comparisons_of_known_ones_are_settled(self):
        for size, one, other in self.pairs():
            for left, right, _ in self.known_sides(size, one, other):
                for sign, act in COMPARISONS.items():
                    self.check_condition(act(left, right), act(one, other), settled(act(one, other)))

    def test_what_is_no_side_is_left_to_python(self):
        x = looks(lambda hand, x: x, "n", (1,))
        for other in ("1", None, True, (1,), [1]):
            ordering = [COMPARISONS[sign] for sign in ("<", "<=", ">", ">=")]
            for act in [*SIGNS.values(), *ordering]:
                with self.assertRaises(TypeError):
                    act(x, other)
                with self.assertRaises(TypeError):
                    act(other, x)
            self.assertIs(x == other, False)
            self.assertIs(x != other, True)


class Conditions(Looking):

    def conditions(self):
        """Conditions of both truths, settled and not, with their nodes."""
        def work(hand, x):
            hand.put("c", 1)
            one = hand.cell("c")
            return [x == 1, x < 1, one == 1, one < 1]

        found = looks(work, "n", (1,), plan=Plan(known=True))
        nodes = [("equal", ("arg", 0), known(1)), ("less", ("arg", 0), known(1)), TRUE, FALSE]
        return [(condition, bool(condition), node) for condition, node in zip(found, nodes, strict=True)]

    def test_both_sides(self):
        ways = {"and": operator.and_, "or": operator.or_, "unlike": operator.xor}
        sides = self.conditions() + [(True, True, TRUE), (False, False, FALSE)]
        for (left, a, first), (right, b, second) in itertools.product(sides, repeat=2):
            if isinstance(left, bool) and isinstance(right, bool):
                continue
            for word, act in ways.items():
                with self.subTest(word=word, one=first, other=second):
                    truth = {"and": a and b, "or": a or b, "unlike": a is not b}[word]
                    both_settled = first in (TRUE, FALSE) and second in (TRUE, FALSE)
                    node = settled(truth) if both_settled else (word, first, second)
                    self.check_condition(act(left, right), truth, node)

    def test_conditions_in_conditions(self):
        found = looks(lambda hand, x: [(x == 1) & (x < 2) | True ^ (x > 0), False | (True & (x != 3))], "n", (1,))
        x = ("arg", 0)
        left = ("and", ("equal", x, known(1)), ("less", x, known(2)))
        self.check_condition(found[0], True, ("or", left, ("unlike", TRUE, ("less", known(0), x))))
        self.check_condition(found[1], True, ("or", FALSE, ("and", TRUE, ("unlike", ("equal", x, known(3)), TRUE))))

    def test_what_is_no_truth_is_left_to_python(self):
        condition = looks(lambda hand, x: x == 1, "n", (1,))
        for other in ("1", None, 1, (1,), Number(4, 1)):
            for act in (operator.and_, operator.or_, operator.xor):
                with self.assertRaises(TypeError):
                    act(condition, other)
                with self.assertRaises(TypeError):
                    act(other, condition)

    def test_bool_decides(self):
        for worth in range(4):
            found = looks(lambda hand, x: [1 if x < 2 else 0, not x < 2, bool(x == 3), (x == 1) and 5], "n", (worth,))
            self.assertEqual(found[:3], [int(worth < 2), not worth < 2, worth == 3])
            self.assertEqual(found[3] == 5, worth == 1)


class Rows(Looking):

    def test_handed_in_and_by_name(self):
        def work(hand, one, two):
            return [row[0] for row in (one, two, hand.row("p"))]

        found = looks(work, "rr", ("p", "p"))
        for number, place in zip(found, (("arg", 0), ("arg", 1), ("row", "p")), strict=True):
            self.check_number(number, 4, 1, ("item", place, known(0), 0))

    def test_a_row_by_name_is_one_in_the_whole_run(self):
        def work(hand):
            return hand.row("p") is hand.row(name="p"), hand.row("p") is hand.row("q")

        self.assertEqual(looks(work), (True, False))

    def test_what_a_row_takes(self):
        for size, most in itertools.product(SIZES, (1, 2)):
            for items in [()] + [(n,) for n in range(size)] + [(1, 0), (0, 1)][:2 * (most == 2)]:
                self.check_row(World(size, most, (), (("p", items),)), items)

    def check_row(self, world, items):
        def work(hand, row, *values):
            for i in [*range(world.size), *[Number(world.size, n) for n in range(world.size)], *values]:
                self.check_reads(world, row, items, i)
            self.assertEqual(len(row), len(items))

        looks(work, "rnn", ("p", 0, 1), world=world)

    def check_reads(self, world, row, items, i):
        at = i if isinstance(i, int) else i.worth
        node = known(at) if isinstance(i, (int, Number)) else i.node
        self.check_condition(row.has(i), at < len(items), ("has", ("arg", 0), node, 0))
        self.check_condition(row.has(i=i), at < len(items), ("has", ("arg", 0), node, 0))
        if at < len(items):
            self.check_number(row[i], world.size, items[at], ("item", ("arg", 0), node, 0))
        else:
            self.check_fault(("index",), lambda: row[i])

    def test_sets_and_pushes(self):
        for i, x in itertools.product((0, Number(3, 0), "arg"), (2, Number(3, 2), "arg")):
            def work(hand, row, zero, two):
                index, number = zero if i == "arg" else i, two if x == "arg" else x
                row[index] = number
                first = row[0]
                row += number
                self.check_number(first, 3, 2, ("item", ("arg", 0), known(0), 1))
                self.check_number(row[1], 3, 2, ("item", ("arg", 0), known(1), 2))
                self.assertEqual(len(row), 2)
                self.check_fault(("full",), lambda: row.__iadd__(number))
                return 0

            world = World(3, 2, (), (("p", (1,)),))
            found = tape_of(work, "rnn", ("p", 0, 2), world=world)
            self.assertEqual(found[:2], (("gives", 0), ((), ((2, 2),))))
            steps = (("set", ("arg", 0), ("arg", 1) if i == "arg" else known(0), ("arg", 2) if x == "arg" else known(2)),
                     ("push", ("arg", 0), ("arg", 2) if x == "arg" else known(2)))
            self.assertEqual(found[2].steps, steps)

    def test_faults_of_sets_and_pushes_change_nothing(self):
        def work(hand, row, x):
            for i in (1, 2, 3, Number(4, 3), x):
                self.check_fault(("index",), lambda: row.__setitem__(i, 2))
            self.check_number(row[0], 4, 1, ("item", ("arg", 0), known(0), 0))
            return 0

        found = tape_of(work, "rn", ("p", 3))
        self.assertEqual(found[1], ((1, 0), ((1,), ())))

    def test_rows_are_one_under_each_name(self):
        def work(hand, one, two):
            one += 3
            two[0] = 2
            return [hand.row("p")[0], one[0], two[1], len(hand.row("p")), hand.row("p").has(1)]

        found = looks(work, "rr", ("p", "p"))
        self.check_number(found[0], 4, 2, ("item", ("row", "p"), known(0), 2))
        self.check_number(found[1], 4, 2, ("item", ("arg", 0), known(0), 2))
        self.check_number(found[2], 4, 3, ("item", ("arg", 1), known(1), 2))
        self.assertEqual(found[3], 2)
        self.check_condition(found[4], True, ("has", ("row", "p"), known(1), 2))

    def test_same(self):
        def work(hand, one, two):
            p = hand.row("p")
            return [hand.same(one, two), hand.same(two, one), hand.same(one, one), hand.same(p, hand.row("p")),
                    hand.same(one, p), hand.same(p, two), hand.same(hand.row("q"), p), hand.same(other=two, one=two)]

        for names in itertools.product("pq", repeat=2):
            found = looks(work, "rr", names)
            one, two, p = ("arg", 0), ("arg", 1), ("row", "p")
            nodes = [("same", one, two), ("same", two, one), TRUE, TRUE, ("same", one, p), ("same", p, two)]
            nodes += [("same", ("row", "q"), p), TRUE]
            alike = names[0] == names[1]
            truths = [alike, alike, True, True, names[0] == "p", names[1] == "p", False, True]
            for condition, truth, node in zip(found, truths, nodes, strict=True):
                self.check_condition(condition, truth, node)

    def test_rows_are_not_iterated_over(self):
        def work(hand, row):
            with self.assertRaises(TypeError):
                list(row)

        looks(work, "r", ("p",))


class Times(Looking):
    """What is read behind writes has their number."""

    def times(self, *writes, plan=None):
        """The times of four reads behind each of some writes."""
        def inner(hand, x):
            hand.put("d", x)
            return hand.cell("d")

        def failing(hand, row):
            row[3] = 1

        def outer(hand, row):
            found = []
            for write in (None,) + writes:
                if write:
                    hand.tried(lambda: write(hand, row), lambda word: 0)
                reads = [hand.cell("c").node[-1], row[0].node[-1], row.has(1).node[-1], hand.row("p").has(0).node[-1]]
                self.assertEqual(len({*reads}), 1)
                found.append(reads[0])
            self.found = found
            return 0

        works = (("failing", failing, "r"), ("inner", inner, "n"), ("outer", outer, "r"))
        setup = Setup(small_world(), works, 1)
        taped(setup, plan or Plan(), setup.world.first, "outer", ("p",))
        return self.found

    def test_writes_of_each_kind(self):
        put, push = lambda hand, row: hand.put("c", 1), lambda hand, row: row.__iadd__(1)
        put_in, push_in = lambda hand, row: row.__setitem__(0, 1), lambda hand, row: hand.row("q").__iadd__(1)
        self.assertEqual(self.times(put, push, put_in, push_in, put), [0, 1, 2, 3, 4, 5])

    def test_what_is_no_write(self):
        ways = [
            lambda hand, row: row.__setitem__(3, 1), lambda hand, row: hand.fail("a"), lambda hand, row: row[3],
            lambda hand, row: hand.holds(row.has(0), "g"), lambda hand, row: hand.fine(row[0], "g"),
            lambda hand, row: hand.row("q"), lambda hand, row: hand.same(row, hand.row("q")),
            lambda hand, row: hand.call("failing", row),
        ]
        self.assertEqual(self.times(*ways, plan=Plan(("g",))), [0] * 9)
        full = [lambda hand, row: row.__iadd__(1)] * 3
        self.assertEqual(self.times(*full), [0, 1, 1, 1])

    def test_writes_of_works_on_this_tape(self):
        call, put = lambda hand, row: hand.call("inner", 2), lambda hand, row: hand.put("c", 1)
        self.assertEqual(self.times(call, put, call), [0, 1, 2, 3])

    def test_calls_by_keepers(self):
        call, put = lambda hand, row: hand.call("inner", 2), lambda hand, row: hand.put("c", 1)
        failing = lambda hand, row: hand.call("failing", row)
        found = self.times(call, failing, put, failing, plan=Plan(own=("failing", "inner")))
        self.assertEqual(found, [0, 1, 2, 3, 4])
        self.assertEqual(self.times(call, failing, put, failing, plan=Plan(own=("inner",))), [0, 1, 1, 2, 2])

    def test_a_call_too_deep_is_no_write(self):
        seen = []

        def last(hand):
            return 0

        def work(hand, x):
            if x > 0:
                return hand.call("work", x - 1)
            seen.append(hand.cell("c").node)
            hand.tried(lambda: hand.call("last"), lambda word: 0)
            seen.append(hand.cell("c").node)
            return 0

        setup = Setup(small_world(), (("last", last, ""), ("work", work, "n")), 1)
        taped(setup, Plan(own=("last",)), setup.world.first, "work", (2,))
        self.assertEqual(seen, [("cell", "c", 0), ("cell", "c", 0)])
        taped(setup, Plan(own=("last",)), setup.world.first, "work", (1,))
        self.assertEqual(seen[2:], [("cell", "c", 0), ("cell", "c", 1)])


if __name__ == "__main__":
    unittest.main()
