"""Works that are made of scripts: nested tuples which a hand can follow, and a reckoning of the tests' own, too.

Expressions of numbers: ("int", n), ("arg", k), ("cell", name), ("put", name, x), ("item", row, i), ("set", row, i, x),
("push", row, x), ("do", sign, x, y), ("minus", x), ("fine", x, guard), ("if", guard or None, truth, x, y),
("call", name, values), ("fail", word), ("tried", x, y), ("word", word, x, y) within y of a tried, ("seq", x, ..),
("bad",) for what is no answer, at the end alone. Rows: ("handed", k), ("named", name). Truths: (comparison, x, y), ("has", row, i),
("same", row, row), ("&", a, b), ("|", a, b), ("^", a, b), ("bool", truth).
"""

import operator
import random

from tapedonce.numbers import Number

SIGNS = {"+": operator.add, "-": operator.sub, "*": operator.mul, "//": operator.floordiv}
COMPARISONS = {
    "==": operator.eq, "!=": operator.ne, "<": operator.lt, "<=": operator.le, ">": operator.gt, ">=": operator.ge,
}
LOGIC = {"&": operator.and_, "|": operator.or_, "^": operator.xor}
GUARDS = ("e", "g", "h")


def follow(ways, x, word=None):
    """The number of an expression, by ways to do each thing."""
    def go(part):
        return follow(ways, part, word)

    kind = x[0]
    if kind in ("int", "arg", "cell", "fail", "bad"):
        return getattr(ways, "do_" + kind)(*x[1:])
    if kind == "put":
        return ways.do_put(x[1], go(x[2]))
    if kind == "item":
        return ways.do_item(row_of(ways, x[1]), go(x[2]))
    if kind == "set":
        return ways.do_set(row_of(ways, x[1]), go(x[2]), go(x[3]))
    if kind == "push":
        return ways.do_push(row_of(ways, x[1]), go(x[2]))
    if kind == "do":
        return ways.do_sign(x[1], go(x[2]), go(x[3]))
    if kind == "minus":
        return ways.do_minus(go(x[1]))
    if kind == "fine":
        return ways.do_fine(go(x[1]), x[2])
    if kind == "if":
        truth = truth_of(ways, x[2], word)
        return go(x[3] if ways.decide(truth, x[1]) else x[4])
    if kind == "call":
        return ways.do_call(x[1], [row_of(ways, v) if v[0] in ("handed", "named") else go(v) for v in x[2]])
    if kind == "tried":
        return ways.do_tried(lambda: go(x[1]), lambda told: follow(ways, x[2], told))
    if kind == "word":
        return go(x[2] if word == x[1] else x[3])
    assert kind == "seq"
    return [go(part) for part in x[1:]][-1]


def row_of(ways, row):
    return ways.do_handed(row[1]) if row[0] == "handed" else ways.do_named(row[1])


def truth_of(ways, truth, word):
    kind = truth[0]
    if kind in COMPARISONS:
        return ways.compare(kind, follow(ways, truth[1], word), follow(ways, truth[2], word))
    if kind == "has":
        return ways.do_has(row_of(ways, truth[1]), follow(ways, truth[2], word))
    if kind == "same":
        return ways.do_same(row_of(ways, truth[1]), row_of(ways, truth[2]))
    if kind == "bool":
        return ways.do_bool(truth[1])
    return ways.do_logic(kind, truth_of(ways, truth[1], word), truth_of(ways, truth[2], word))


class ByHand:
    """Does each thing by a hand, and by Python's signs."""

    def __init__(self, size, hand, values):
        self.size, self.hand, self.values = size, hand, values

    def lifted(self, x):
        return Number(self.size, x) if isinstance(x, int) else x

    def do_int(self, n):
        return n

    def do_arg(self, k):
        return self.values[k]

    do_handed = do_arg

    def do_named(self, name):
        return self.hand.row(name)

    def do_cell(self, name):
        return self.hand.cell(name)

    def do_put(self, name, x):
        self.hand.put(name, x)
        return 0

    def do_item(self, row, i):
        return row[i]

    def do_set(self, row, i, x):
        row[i] = x
        return 0

    def do_push(self, row, x):
        row += x
        return 0

    def do_sign(self, sign, x, y):
        if isinstance(x, int) and isinstance(y, int):
            x = self.lifted(x)
        return SIGNS[sign](x, y)

    def do_minus(self, x):
        return -self.lifted(x)

    def do_fine(self, x, guard):
        return self.hand.fine(x, guard)

    def do_fail(self, word):
        return self.hand.fail(word)

    def do_bad(self):
        return "bad"

    def do_call(self, name, values):
        return self.hand.call(name, *values)

    def do_tried(self, look, other):
        return self.hand.tried(look, other)

    def decide(self, truth, guard):
        return bool(truth) if guard is None else self.hand.holds(truth, guard)

    def compare(self, sign, x, y):
        return COMPARISONS[sign](x, y)

    def do_has(self, row, i):
        return row.has(i)

    def do_same(self, one, other):
        return self.hand.same(one, other)

    def do_bool(self, truth):
        return truth

    def do_logic(self, sign, one, other):
        return LOGIC[sign](one, other)


def work_of(size, script):
    """The work that follows a script."""
    return lambda hand, *values: follow(ByHand(size, hand, values), script)


class Maker:
    """Makes scripts by chance, the same ones for the same seed."""

    def __init__(self, seed, size, cells, rows, kinds):
        self.chance = random.Random(seed)
        self.size, self.cells, self.rows, self.kinds = size, cells, rows, kinds
        self.callable = []

    def pick(self, xs):
        return self.chance.choice(xs)

    def script(self, name, depth=4):
        own = self.kinds[name]
        self.callable = [other for other in sorted(self.kinds) if other > name] * 3 + sorted(self.kinds)
        parts = [self.part(own, depth) for _ in range(self.chance.randint(1, 4))]
        if self.chance.randrange(6) == 0:
            parts.append(("if", self.pick(GUARDS + (None,)), self.truth(own, 1, False), parts.pop(), ("bad",)))
        return ("seq", *parts)

    def part(self, own, depth):
        part = self.number(own, depth)
        return ("tried", part, self.number(own, 1, True)) if self.chance.randrange(5) else part

    def row(self, own):
        choices = [("named", name) for name in self.rows]
        choices += [("handed", at) for at, kind in enumerate(own) if kind == "r"] * 2
        return self.pick(choices)

    def number(self, own, depth, tried=False):
        leaves = [("int", self.chance.randrange(self.size))]
        leaves += [("arg", at) for at, kind in enumerate(own) if kind == "n"] * 3
        leaves += [("cell", name) for name in self.cells] * 2
        if depth == 0:
            return self.pick(leaves)

        def down():
            return self.number(own, depth - 1, tried)

        way = self.chance.randrange(24)
        if way < 3:
            return self.pick(leaves)
        if way < 6:
            return ("do", self.pick("+ - * + - * //".split()), down(), down())
        if way == 6:
            return ("minus", down())
        if way == 7:
            return ("fine", down(), self.pick(GUARDS))
        if way < 11:
            guard = self.pick(GUARDS + (None,))
            return ("if", guard, self.truth(own, depth - 1, tried), down(), down())
        if way < 13 and self.cells:
            return ("put", self.pick(self.cells), down())
        if way < 18 and self.rows:
            row = self.row(own)
            if way < 15:
                return ("item", row, down())
            return ("set", row, down(), down()) if way == 15 else ("push", row, down())
        if way < 20:
            name = self.pick(self.callable)
            return ("call", name, [self.row(own) if kind == "r" else down() for kind in self.kinds[name]])
        if way < 22:
            return ("tried", down(), self.number(own, depth - 1, True))
        if way == 22 and tried:
            return ("word", self.pick(("zero", "index", "full", "no", "deep")), down(), down())
        if self.chance.randrange(3) == 0:
            return ("fail", "no")
        return ("seq", down(), down())

    def truth(self, own, depth, tried):
        way = self.chance.randrange(10)
        if way < 6 or depth == 0:
            sign = self.pick(sorted(COMPARISONS))
            depth = max(depth - 1, 0)
            return (sign, self.number(own, depth, tried), self.number(own, depth, tried))
        if way == 6 and self.rows:
            return ("has", self.row(own), self.number(own, depth - 1, tried))
        if way == 7 and self.rows:
            return ("same", self.row(own), self.row(own))
        if way == 8:
            return ("bool", self.chance.randrange(2) == 0)
        return (self.pick("&|^"), self.truth(own, depth - 1, tried), self.truth(own, depth - 1, tried))
