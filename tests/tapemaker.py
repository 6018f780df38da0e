"""Makes tapes by chance, the same ones for the same seed, with all that may stand in a tape."""

import random

from tapedonce.tapes import Tape


class TapeMaker:

    def __init__(self, seed, world, kinds, works):
        """works: for each name of a work its kinds; with none, the tapes have no calls."""
        self.chance = random.Random(seed)
        self.world, self.kinds, self.works = world, kinds, works
        self.cells, self.rows = [name for name, _ in world.cells], [name for name, _ in world.rows]
        self.writes, self.calls = 0, []

    def tape(self, many):
        self.writes, self.calls, steps = 0, [], []
        for at in range(many):
            step = self.step()
            steps.append(step)
            if step[0] == "call":
                self.calls.append(at)
            if step[0] in ("set", "push", "put", "call") or step[0] == "fails" and step[1][0] == "call":
                self.writes += 1
        end = ("faults", tuple(self.word() for _ in range(self.chance.randint(1, 3))))
        if self.chance.randrange(4):
            end = ("gives", self.node(2))
        return Tape(self.world, self.kinds, tuple(steps), end)

    def word(self):
        return self.chance.choice(("zero", "index", "full", "no", "deep", "kind"))

    def time(self):
        return self.chance.randint(0, self.writes)

    def row(self):
        choices = [("row", name) for name in self.rows]
        return self.chance.choice(choices + [("arg", at) for at, kind in enumerate(self.kinds) if kind == "r"])

    def node(self, depth):
        leaves = [("known", self.chance.randrange(self.world.size))]
        leaves += [("arg", at) for at, kind in enumerate(self.kinds) if kind == "n"] * 2
        leaves += [("cell", name, self.time()) for name in self.cells]
        leaves += [("result", at) for at in self.calls]
        way = self.chance.randrange(8)
        if depth == 0 or way < 3:
            return self.chance.choice(leaves)
        if way == 3 and self.rows:
            return ("item", self.row(), self.node(depth - 1), self.time())
        if way == 4:
            return ("minus", self.node(depth - 1))
        return ("do", self.chance.choice(("+", "-", "*", "//")), self.node(depth - 1), self.node(depth - 1))

    def condition(self, depth):
        way = self.chance.randrange(8)
        if way == 0:
            return self.chance.choice((("true",), ("false",)))
        if way == 1 and self.rows:
            return ("same", self.row(), self.row())
        if way == 2 and self.rows:
            return ("has", self.row(), self.node(1), self.time())
        if way < 5 and depth:
            return (self.chance.choice(("and", "or", "unlike")), self.condition(depth - 1), self.condition(depth - 1))
        return (self.chance.choice(("equal", "less")), self.node(1), self.node(1))

    def call(self):
        name = self.chance.choice(sorted(self.works))
        return ("call", name, tuple(self.row() if kind == "r" else self.node(1) for kind in self.works[name]))

    def what(self):
        way = self.chance.randrange(6)
        if way == 0 and self.rows:
            return ("place", self.row(), self.node(1), self.time()), "index"
        if way == 1 and self.rows:
            return ("room", self.row(), self.time()), "full"
        if way == 2 and self.works:
            return self.call(), self.word()
        if way == 3 and self.rows:
            return ("item", self.row(), self.node(1), self.time()), "index"
        return ("do", "//", self.node(1), self.chance.choice((("known", 0), self.node(1)))), "zero"

    def step(self):
        way = self.chance.randrange(10)
        if way < 2:
            return ("guard", self.condition(2), self.chance.randrange(2) == 0)
        if way == 2:
            return ("fine", self.node(2))
        if way < 5 and self.cells:
            return ("put", self.chance.choice(self.cells), self.node(2))
        if way == 5 and self.rows:
            return ("set", self.row(), self.node(1), self.node(1))
        if way == 6 and self.rows:
            return ("push", self.row(), self.node(1))
        if way < 9 and self.works:
            return self.call()
        what, word = self.what()
        return ("fails", what, word if self.chance.randrange(8) else self.word())
