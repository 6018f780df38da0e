"""A reckoning of the tests' own: plain runs, taping runs, runs of tapes and keepers, by twins that are whole copies.

It follows the scripts of tests/scripts.py, and shares no line with the program.
"""

import copy

from tests.scripts import follow


class Went(Exception):
    """A Fault, and what a tape would tell of it."""

    def __init__(self, words, what=None):
        super().__init__(words)
        self.words, self.what = words, what


class Off(Exception):
    """A run of a tape is off."""


class Field:
    """A world, the scripts of its works, and the tapes of all keepers."""

    def __init__(self, world, scripts, kinds, room, state=None):
        self.size, self.most = world.size, world.most
        self.scripts, self.kinds, self.room = scripts, kinds, room
        self.cells, self.rows = dict(world.cells), {name: list(items) for name, items in world.rows}
        self.tapes = {name: [] for name in sorted(scripts)}
        # One list for all twins: what was taped in a run that is off was taped.
        self.taped = []
        if state is not None:
            self.lay(state[0])
            self.tapes = {name: list(texts) for name, texts in zip(sorted(scripts), state[1], strict=True)}

    def lay(self, stand):
        self.cells = dict(zip(self.cells, stand[0], strict=True))
        self.rows = {name: list(items) for name, items in zip(self.rows, stand[1], strict=True)}

    def stand(self):
        return tuple(self.cells.values()), tuple(tuple(items) for items in self.rows.values())

    def state(self):
        return self.stand(), tuple(tuple(texts) for texts in self.tapes.values())

    def twin(self):
        other = copy.copy(self)
        other.cells, other.rows = dict(self.cells), copy.deepcopy(self.rows)
        other.tapes = {name: list(texts) for name, texts in self.tapes.items()}
        return other

    def become(self, twin):
        self.cells, self.rows, self.tapes = twin.cells, twin.rows, twin.tapes


def rounded(size, sign, a, b):
    if sign == "//":
        if b == 0:
            raise Went(("zero",))
        return a // b
    return {"+": a + b, "-": a - b, "*": a * b}[sign] % size


def depth_of(thing):
    """How deep a node or a condition is."""
    at = {"item": (2,), "do": (2, 3), "minus": (1,), "equal": (1, 2), "less": (1, 2), "has": (2,), "and": (1, 2)}
    at.update({"or": (1, 2), "unlike": (1, 2)})
    return 1 + max([depth_of(thing[k]) for k in at.get(thing[0], ())], default=0)


def nodes_in(step):
    """The outermost nodes and conditions of a step, or of an end."""
    if step[0] in ("guard", "fine", "gives"):
        return [step[1]]
    if step[0] == "set":
        return [step[2], step[3]]
    if step[0] in ("push", "put"):
        return [step[2]]
    if step[0] == "call":
        return [value for value in step[2] if value[0] != "row"]
    if step[0] == "fails":
        what = step[1]
        if what[0] == "place":
            return [what[2]]
        if what[0] == "call":
            return nodes_in(what)
        return [] if what[0] == "room" else [what]
    return []


class Reckoner:
    """Follows a work by worths and nodes; numbers are (worth, node), rows (name, list), truths (truth, node).

    A number that is not carried, an integer or what is made of such alone, is (worth, node, "plain").
    """

    def __init__(self, field, plan, depth):
        self.field, self.plan, self.depth = field, plan, depth
        self.steps, self.writes, self.counts = [], 0, []
        self.puts, self.sets = {}, {}
        self.values = ()

    def known(self, n):
        return n, ("known", n), "plain"

    def thing(self):
        self.counts[-1] += 1
        if self.counts[-1] > 40:
            raise Went(("long",))

    def wrote(self, step):
        self.steps.append(step)
        self.writes += 1

    def note(self, went):
        if went.what is not None:
            self.steps.append(("fails", went.what, went.words[0]))

    # Numbers

    def do_int(self, n):
        return self.known(n)

    def do_arg(self, k):
        return self.values[k]

    do_handed = do_arg

    def do_named(self, name):
        self.thing()
        return name, ("row", name)

    def do_cell(self, name):
        self.thing()
        if self.plan.known and name in self.puts:
            return self.field.cells[name], self.puts[name]
        return self.field.cells[name], ("cell", name, self.writes)

    def do_put(self, name, x):
        self.thing()
        self.field.cells[name] = x[0]
        self.wrote(("put", name, x[1]))
        self.puts[name] = x[1]
        return self.known(0)

    def do_item(self, row, i):
        items, node = self.field.rows[row[0]], ("item", row[1], i[1], self.writes)
        if i[0] >= len(items):
            raise Went(("index",), node)
        last = self.sets.get(row[1])
        if self.plan.known and last and last[0] == i[1] and last[1][0] == items[i[0]] and depth_of(i[1]) <= 8:
            node = last[1][1]
        return items[i[0]], node

    def do_set(self, row, i, x):
        self.thing()
        items = self.field.rows[row[0]]
        if i[0] >= len(items):
            raise Went(("index",), ("place", row[1], i[1], self.writes))
        items[i[0]] = x[0]
        self.wrote(("set", row[1], i[1], x[1]))
        self.sets[row[1]] = (i[1], x)
        return self.known(0)

    def do_push(self, row, x):
        self.thing()
        items = self.field.rows[row[0]]
        if len(items) >= self.field.most:
            raise Went(("full",), ("room", row[1], self.writes))
        items.append(x[0])
        self.wrote(("push", row[1], x[1]))
        self.sets.pop(row[1], None)
        return self.known(0)

    def do_sign(self, sign, x, y):
        both_known = x[1][0] == y[1][0] == "known"
        node = ("do", sign, x[1], y[1])
        try:
            worth = rounded(self.field.size, sign, x[0], y[0])
        except Went as went:
            raise Went(went.words, None if both_known else node) from None
        if x[2:] and y[2:]:
            return self.known(worth)
        return (worth, ("known", worth)) if both_known else (worth, node)

    def do_minus(self, x):
        worth = -x[0] % self.field.size
        if x[2:]:
            return self.known(worth)
        return (worth, ("known", worth)) if x[1][0] == "known" else (worth, ("minus", x[1]))

    def do_fine(self, x, guard):
        self.thing()
        if x[1][0] != "known" and guard in self.plan.guards:
            self.steps.append(("fine", x[1]))
        return x

    def do_fail(self, word):
        self.thing()
        raise Went((word,))

    def do_bad(self):
        return None

    # Truths

    def settled(self, word, truth, one, other, settled):
        if one[0] in settled and other[0] in settled:
            return truth, ("true",) if truth else ("false",)
        return truth, (word, one, other)

    def compare(self, sign, x, y):
        if sign in ("==", "!="):
            # Of a number that is not carried, Python asks the other side.
            x, y = (y, x) if x[2:] and not y[2:] else (x, y)
            plain = self.settled("equal", x[0] == y[0], x[1], y[1], ("known",))
        elif sign in ("<", ">="):
            plain = self.settled("less", x[0] < y[0], x[1], y[1], ("known",))
        else:
            plain = self.settled("less", y[0] < x[0], y[1], x[1], ("known",))
        if sign in ("==", "<", ">"):
            return plain
        return self.do_logic("^", plain, (True, ("true",)))

    def do_has(self, row, i):
        return i[0] < len(self.field.rows[row[0]]), ("has", row[1], i[1], self.writes)

    def do_same(self, one, other):
        self.thing()
        if one[1] == other[1]:
            return True, ("true",)
        return one[0] == other[0], ("same", one[1], other[1])

    def do_bool(self, truth):
        return truth, ("true",) if truth else ("false",)

    def do_logic(self, sign, one, other):
        truth = {"&": one[0] and other[0], "|": one[0] or other[0], "^": one[0] is not other[0]}[sign]
        word = {"&": "and", "|": "or", "^": "unlike"}[sign]
        return self.settled(word, truth, one[1], other[1], ("true", "false"))

    def decide(self, truth, guard):
        if guard is not None:
            self.thing()
            if truth[1] not in (("true",), ("false",)) and guard in self.plan.guards:
                self.steps.append(("guard", truth[1], truth[0]))
        return truth[0]

    # Calls

    def do_call(self, name, values):
        self.thing()
        if self.depth + len(self.counts) > 3:
            raise Went(("deep",))
        if name not in self.plan.own:
            return self.run(name, [value[:2] for value in values])
        told = by_keeper(self.field, self.plan, name, tuple(value[0] for value in values), self.depth + len(self.counts))
        self.writes += 1
        self.puts, self.sets = {}, {}
        call = ("call", name, tuple(value[1] for value in values))
        if told[0] == "faults":
            raise Went(told[1], call)
        self.steps.append(call)
        return told[1], ("result", len(self.steps) - 1)

    def run(self, name, values):
        """A work on this tape; (self.depth tells how deep the outermost one stands)."""
        ahead, self.values = self.values, values
        self.counts.append(0)
        try:
            answer = follow(self, self.field.scripts[name])
        finally:
            self.counts.pop()
            self.values = ahead
        if answer is None:
            raise Went(("kind",))
        return answer[:2]

    def do_tried(self, look, other):
        self.thing()
        try:
            return look()
        except Went as went:
            if went.words[0] == "long":
                raise
            first = went
        self.note(first)
        try:
            return other(first.words[0])
        except Went as went:
            raise Went((went.words + first.words)[:3], went.what) from None


def taping(field, plan, name, values, depth):
    """(told, text) of a taping run; the text is None if there is no tape."""
    run = Reckoner(field, plan, depth)
    handed = []
    for at, (kind, value) in enumerate(zip(field.kinds[name], values, strict=True)):
        handed.append((value, ("arg", at)))
    try:
        answer = run.run(name, handed)
        told, end = ("gives", answer[0]), ("gives", answer[1])
    except Went as went:
        run.note(went)
        told = end = ("faults", went.words)
    deepest = max(depth_of(node) for step in run.steps + [end, ("fine", ("known", 0))] for node in nodes_in(step))
    if end[0] == "faults" and end[1][0] == "long" or len(run.steps) > 60 or deepest > 8:
        return told, None
    return told, (tuple(run.steps), end)


def plain(field, name, values):
    """What a plain run tells: nothing is own, and what is written does not matter."""
    class Nothing:
        guards, known, own = (), False, ()

    return taping(field, Nothing, name, values, 1)[0]


class TapeReckoner:
    """A run of a tape."""

    def __init__(self, field, plan, values, depth):
        self.field, self.plan, self.values, self.depth = field, plan, values, depth
        self.times, self.answers = [field.twin()], {}

    def told(self, text):
        steps, end = text
        try:
            for at, step in enumerate(steps):
                self.do(at, step)
            return ("gives", self.work_out(end[1])) if end[0] == "gives" else end
        except (Off, Went):
            return None

    def wrote(self):
        self.times.append(self.field.twin())

    def check(self, truth):
        if not truth:
            raise Off

    def do(self, at, step):
        word = step[0]
        if word == "guard":
            self.check(self.holds(step[1]) is step[2])
        elif word == "fine":
            self.work_out(step[1])
        elif word == "put":
            self.field.cells[step[1]] = self.work_out(step[2])
            self.wrote()
        elif word in ("set", "push"):
            items, parts = self.field.rows[self.name(step[1])], [self.work_out(node) for node in step[2:]]
            if word == "set":
                self.check(parts[0] < len(items))
                items[parts[0]] = parts[1]
            else:
                self.check(len(items) < self.field.most)
                items.append(parts[0])
            self.wrote()
        elif word == "call":
            told = self.call(step)
            self.check(told[0] == "gives")
            self.answers[at] = told[1]
        else:
            self.check(self.fault_of(step[1]) == step[2])

    def call(self, call):
        kinds = self.field.kinds[call[1]]
        parts = zip(kinds, call[2], strict=True)
        values = tuple(self.name(value) if kind == "r" else self.work_out(value) for kind, value in parts)
        told = by_keeper(self.field, self.plan, call[1], values, self.depth + 1)
        self.wrote()
        return told

    def fault_of(self, what):
        """The word of the fault that something brings, None if it brings none."""
        if what[0] == "call":
            told = self.call(what)
            return told[1][0] if told[0] == "faults" else None
        if what[0] == "room":
            return "full" if len(self.items(what[1], what[2])) == self.field.most else None
        if what[0] == "place":
            return None if self.work_out(what[2]) < len(self.items(what[1], what[3])) else "index"
        for part in nodes_of(what):
            self.work_out(part)
        try:
            self.work_out(what)
        except Went as went:
            return went.words[0]
        return None

    def name(self, row):
        return row[1] if row[0] == "row" else self.values[row[1]]

    def items(self, row, time):
        return self.times[time].rows[self.name(row)]

    def work_out(self, node):
        word = node[0]
        parts = [self.work_out(part) for part in nodes_of(node)]
        if word == "known":
            return node[1]
        if word == "arg":
            return self.values[node[1]]
        if word == "cell":
            return self.times[node[2]].cells[node[1]]
        if word == "item":
            items = self.items(node[1], node[3])
            if parts[0] >= len(items):
                raise Went(("index",))
            return items[parts[0]]
        if word == "minus":
            return -parts[0] % self.field.size
        if word == "result":
            return self.answers[node[1]]
        return rounded(self.field.size, node[1], *parts)

    def holds(self, condition):
        word = condition[0]
        if word in ("equal", "less"):
            one, other = self.work_out(condition[1]), self.work_out(condition[2])
            return one == other if word == "equal" else one < other
        if word == "has":
            return self.work_out(condition[2]) < len(self.items(condition[1], condition[3]))
        if word == "same":
            return self.name(condition[1]) == self.name(condition[2])
        if word in ("true", "false"):
            return word == "true"
        one, other = self.holds(condition[1]), self.holds(condition[2])
        return {"and": one and other, "or": one or other, "unlike": one is not other}[word]


def nodes_of(node):
    """The nodes within a node."""
    return {"item": node[2:3], "do": node[2:4], "minus": node[1:2]}.get(node[0], ())


def by_tape(field, plan, text, values, depth):
    """What a run of a tape tells, None if it is off."""
    upon = field.twin() if plan.held else field
    told = TapeReckoner(upon, plan, values, depth).told(text)
    if told is not None:
        field.become(upon)
    return told


def by_keeper(field, plan, name, values, depth):
    """What a call by the keeper of a work tells."""
    if depth > 3:
        return "faults", ("deep",)
    for text in list(field.tapes[name]):
        told = by_tape(field, plan, text, values, depth)
        if told is not None:
            return told
    field.taped.append(name)
    told, text = taping(field, plan, name, values, depth)
    if text is not None and text not in field.tapes[name]:
        field.tapes[name].append(text)
        while len(field.tapes[name]) > field.room:
            del field.tapes[name][0]
    return told


def reckoned_kept(world, scripts, kinds, room, plan, state, deed):
    """What kept tells."""
    return reckoned_deed(world, scripts, kinds, room, plan, state, deed)[:2]


def reckoned_deed(world, scripts, kinds, room, plan, state, deed):
    """What kept tells, and whether the deed tapes."""
    field = Field(world, scripts, kinds, room, state)
    told = None
    if deed[0] == "call":
        told = by_keeper(field, plan, deed[1], deed[2], 1)
    elif deed[1] in field.cells:
        field.cells[deed[1]] = deed[2]
    else:
        field.rows[deed[1]] = list(deed[2])
    return told, field.state(), len(field.taped) > 0


def reckoned_plainly(world, scripts, kinds, stand, deed):
    """What plainly tells of a call."""
    field = Field(world, scripts, kinds, 1)
    field.lay(stand)
    return plain(field, deed[1], deed[2]), field.stand()
