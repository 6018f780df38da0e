"""Which steps and ends a tape may have, told once more for the tests, each row of the tables in its own words."""


def whole(value, low, high):
    return type(value) is int and low <= value <= high


def named(value):
    return type(value) is str and 1 <= len(value) <= 8 and all("a" <= letter <= "z" for letter in value)


class Ahead:
    """What is ahead of a step: how many writes, and which steps are calls."""

    def __init__(self, world, kinds):
        self.world, self.kinds, self.writes, self.calls = world, kinds, 0, set()
        self.cells, self.rows = [name for name, _ in world.cells], [name for name, _ in world.rows]

    def tuple_of(self, value, *words):
        return type(value) is tuple and len(value) > 0 and type(value[0]) is str and value[0] in words

    def time(self, value):
        return whole(value, 0, self.writes)

    def value(self, value, kind):
        return whole(value, 0, len(self.kinds) - 1) and self.kinds[value] == kind

    def row(self, value):
        if not self.tuple_of(value, "arg", "row") or len(value) != 2:
            return False
        if value[0] == "arg":
            return self.value(value[1], "r")
        return type(value[1]) is str and value[1] in self.rows

    def node(self, value, most=8):
        if most == 0 or not self.tuple_of(value, "known", "arg", "cell", "item", "do", "minus", "result"):
            return False
        word, rest = value[0], value[1:]
        many = {"cell": 2, "item": 3, "do": 3}.get(word, 1)
        if len(rest) != many:
            return False
        if word == "known":
            return whole(rest[0], 0, self.world.size - 1)
        if word == "arg":
            return self.value(rest[0], "n")
        if word == "cell":
            return type(rest[0]) is str and rest[0] in self.cells and self.time(rest[1])
        if word == "item":
            return self.row(rest[0]) and self.node(rest[1], most - 1) and self.time(rest[2])
        if word == "do":
            sign = type(rest[0]) is str and rest[0] in ("+", "-", "*", "//")
            return sign and self.node(rest[1], most - 1) and self.node(rest[2], most - 1)
        if word == "minus":
            return self.node(rest[0], most - 1)
        return whole(rest[0], 0, 59) and rest[0] in self.calls

    def condition(self, value, most=8):
        words = ("equal", "less", "has", "same", "and", "or", "unlike", "true", "false")
        if most == 0 or not self.tuple_of(value, *words):
            return False
        word, rest = value[0], value[1:]
        if word in ("true", "false"):
            return rest == ()
        if len(rest) != (3 if word == "has" else 2):
            return False
        if word == "same":
            return self.row(rest[0]) and self.row(rest[1])
        if word == "has":
            return self.row(rest[0]) and self.node(rest[1], most - 1) and self.time(rest[2])
        part = self.node if word in ("equal", "less") else self.condition
        return part(rest[0], most - 1) and part(rest[1], most - 1)

    def call(self, name, values):
        if not named(name) or type(values) is not tuple or len(values) > 3:
            return False
        return all(self.node(value) or self.row(value) for value in values)

    def what(self, value):
        if self.tuple_of(value, "place"):
            return len(value) == 4 and self.row(value[1]) and self.node(value[2]) and self.time(value[3])
        if self.tuple_of(value, "room"):
            return len(value) == 3 and self.row(value[1]) and self.time(value[2])
        if self.tuple_of(value, "call"):
            return len(value) == 3 and self.call(*value[1:])
        return self.node(value)

    def step(self, value):
        if not self.tuple_of(value, "guard", "fine", "set", "push", "put", "call", "fails"):
            return False
        word, rest = value[0], value[1:]
        if len(rest) != {"fine": 1, "set": 3}.get(word, 2):
            return False
        if word == "guard":
            return self.condition(rest[0]) and type(rest[1]) is bool
        if word == "fine":
            return self.node(rest[0])
        if word == "set":
            return self.row(rest[0]) and self.node(rest[1]) and self.node(rest[2])
        if word == "push":
            return self.row(rest[0]) and self.node(rest[1])
        if word == "put":
            return type(rest[0]) is str and rest[0] in self.cells and self.node(rest[1])
        if word == "call":
            return self.call(*rest)
        return self.what(rest[0]) and named(rest[1])

    def steps(self, value):
        if type(value) is not tuple or len(value) > 60:
            return False
        for at, step in enumerate(value):
            if not self.step(step):
                return False
            if step[0] == "call":
                self.calls.add(at)
            if step[0] in ("set", "push", "put", "call") or step[0] == "fails" and step[1][0] == "call":
                self.writes += 1
        return True

    def end(self, value):
        if not self.tuple_of(value, "gives", "faults") or len(value) != 2:
            return False
        if value[0] == "gives":
            return self.node(value[1])
        return type(value[1]) is tuple and 1 <= len(value[1]) <= 3 and all(named(word) for word in value[1])


def good_kinds(world, value):
    return type(value) is str and len(value) <= 6 and all(kind in ("nr" if world.rows else "n") for kind in value)
