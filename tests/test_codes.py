"""Section 16: tapes as bytes."""

import itertools
import unittest

from tapedonce.errors import BadBytes
from tapedonce.tapes import Tape
from tapedonce.worlds import World
from tests.making import Refusing
from tests.tapemaker import TapeMaker
from tests.test_tapes import AHEAD, BARE, CONDITIONS, ENDS, GIVES, KINDS, NODES, STEPS, WORLD, deep, deep_condition
from tests.values import any_values

LETTERS = "abcdefghijklmnopqrstuvwxyz"
X = ("arg", 0)


def signs(text):
    return {ord(sign) for sign in text}


class Machine:
    """Tells at each place which bytes may stand there, and goes on by one: a reading of section 16 of the tests' own."""

    def __init__(self, world):
        self.world, self.rows = world, len(world.rows)
        self.kinds, self.writes, self.calls = "", 0, []

    def whole(self):
        many = yield {*range(7)}
        for _ in range(many):
            self.kinds += chr((yield signs("nr" if self.rows else "n")))
        many = yield {*range(61)}
        for at in range(many):
            yield from self.step(at)
        if chr((yield signs("GZ"))) == "G":
            yield from self.node(1)
        else:
            many = yield {1, 2, 3}
            for _ in range(many):
                yield from self.name()

    def name(self):
        many = yield {*range(1, 9)}
        for _ in range(many):
            yield signs(LETTERS)

    def step(self, at):
        letter = chr((yield signs("gfcx" + ("sp" if self.rows else "") + ("u" if self.world.cells else ""))))
        if letter == "g":
            yield from self.condition(1)
            yield {0, 1}
        elif letter == "u":
            yield {*range(len(self.world.cells))}
            yield from self.node(1)
        elif letter == "c":
            yield from self.call()
            self.calls.append(at)
        elif letter == "x":
            letter = yield from self.what()
            yield from self.name()
        else:
            if letter in "sp":
                yield from self.list()
            for _ in range(1 + (letter == "s")):
                yield from self.node(1)
        self.writes += letter in "spucC"

    def what(self):
        letter = chr((yield signs("NC" + ("PR" if self.rows else ""))))
        if letter == "C":
            yield from self.call()
        elif letter == "N":
            yield from self.node(1)
        else:
            yield from self.list()
            if letter == "P":
                yield from self.node(1)
            yield {*range(self.writes + 1)}
        return letter

    def call(self):
        yield from self.name()
        many = yield {0, 1, 2, 3}
        for _ in range(many):
            if chr((yield signs("vl" if self.rows else "v"))) == "v":
                yield from self.node(1)
            else:
                yield from self.list()

    def list(self):
        if chr((yield signs("WA" if "r" in self.kinds else "W"))) == "W":
            yield {*range(self.rows)}
        else:
            yield {at for at, kind in enumerate(self.kinds) if kind == "r"}

    def node(self, depth):
        letters = "k" + ("a" if "n" in self.kinds else "") + ("c" if self.world.cells else "") + ("r" if self.calls else "")
        if depth < 8:
            letters += "dm" + ("i" if self.rows else "")
        letter = chr((yield signs(letters)))
        if letter == "k":
            yield {*range(self.world.size)}
        elif letter == "a":
            yield {at for at, kind in enumerate(self.kinds) if kind == "n"}
        elif letter == "r":
            yield {*self.calls}
        elif letter == "c":
            yield {*range(len(self.world.cells))}
            yield {*range(self.writes + 1)}
        elif letter == "i":
            yield from self.list()
            yield from self.node(depth + 1)
            yield {*range(self.writes + 1)}
        else:
            if letter == "d":
                yield signs("+-*/")
                yield from self.node(depth + 1)
            yield from self.node(depth + 1)

    def condition(self, depth):
        letters = "TF" + ("@" if self.rows else "")
        if depth < 8:
            letters += "=<&|^" + ("h" if self.rows else "")
        letter = chr((yield signs(letters)))
        if letter in "=<":
            yield from self.node(depth + 1)
            yield from self.node(depth + 1)
        elif letter == "@":
            yield from self.list()
            yield from self.list()
        elif letter == "h":
            yield from self.list()
            yield from self.node(depth + 1)
            yield {*range(self.writes + 1)}
        elif letter in "&|^":
            yield from self.condition(depth + 1)
            yield from self.condition(depth + 1)


def begun(world, data):
    """(how many bytes begin a tape, what may come behind these: None if they are a whole tape)."""
    run = Machine(world).whole()
    allowed = next(run)
    for at, byte in enumerate(data):
        if allowed is None or byte not in allowed:
            return at, allowed
        try:
            allowed = run.send(byte)
        except StopIteration:
            allowed = None
    return len(data), allowed


def completed(world, data):
    """Bytes of a tape that begin with data, which begin one: gone on with as shortly as may be."""
    short = [*signs("kTWGN"), *signs("f"), 0, 1, ord("+"), ord("a"), ord("v"), ord("n")]
    while True:
        _, allowed = begun(world, data)
        if allowed is None:
            return data
        data += bytes([next((byte for byte in short if byte in allowed), min(allowed))])


class Codes(unittest.TestCase, Refusing):

    def check_tape(self, tape):
        data = tape.written()
        self.assertIs(data.__class__, bytes)
        found = Tape.read(tape.world, data)
        self.assertIs(found.__class__, Tape)
        self.assertIs(found.world, tape.world)
        self.assertEqual((found.kinds, found.steps, found.end), (tape.kinds, tape.steps, tape.end))
        self.assertEqual(repr((found.kinds, found.steps, found.end)), repr((tape.kinds, tape.steps, tape.end)))
        self.assertEqual(Tape.read(data=data, world=tape.world), tape)
        return data

    def check_bytes(self, world, data):
        """What is read, or refused, is what the machine of the tests has it."""
        at, allowed = begun(world, data)
        if at == len(data) and allowed is None:
            self.assertEqual(Tape.read(world, data).written(), data)
        else:
            self.raises(BadBytes, "at", at, Tape.read, world, data)


class Rows(Codes):
    """Each row of the table, its numbers written out by hand."""

    def check_step(self, step, *numbers, ahead=(), ahead_written=()):
        tape = Tape(WORLD, KINDS, ahead + (step,), GIVES)
        data = [3, 110, 114, 110, len(ahead) + 1, *ahead_written, *numbers, 71, 107, 0]
        self.assertEqual(list(self.check_tape(tape)), data)

    def check_end(self, end, *numbers):
        tape = Tape(WORLD, KINDS, AHEAD, end)
        ahead = [99, 1, 119, 0, 117, 0, 107, 0, 99, 1, 119, 0]
        self.assertEqual(list(self.check_tape(tape)), [3, 110, 114, 110, 3, *ahead, *numbers])

    def test_kinds_and_how_many_steps(self):
        for many in range(7):
            for kinds in itertools.product("nr", repeat=many):
                tape = Tape(WORLD, "".join(kinds), (), GIVES)
                numbers = [110 if kind == "n" else 114 for kind in kinds]
                self.assertEqual(list(self.check_tape(tape)), [many, *numbers, 0, 71, 107, 0])
        tape = Tape(BARE, "", (("fine", ("known", 1)),) * 60, GIVES)
        self.assertEqual(list(self.check_tape(tape)), [0, 60] + [102, 107, 1] * 60 + [71, 107, 0])

    def test_nodes(self):
        self.check_end(("gives", ("known", 2)), 71, 107, 2)
        self.check_end(("gives", ("arg", 2)), 71, 97, 2)
        self.check_end(("gives", ("cell", "d", 3)), 71, 99, 1, 3)
        self.check_end(("gives", ("item", ("arg", 1), ("known", 1), 2)), 71, 105, 65, 1, 107, 1, 2)
        self.check_end(("gives", ("item", ("row", "q"), ("arg", 0), 0)), 71, 105, 87, 1, 97, 0, 0)
        for sign, number in (("+", 43), ("-", 45), ("*", 42), ("//", 47)):
            self.check_end(("gives", ("do", sign, ("known", 1), ("arg", 0))), 71, 100, number, 107, 1, 97, 0)
        self.check_end(("gives", ("minus", ("known", 1))), 71, 109, 107, 1)
        self.check_end(("gives", ("result", 2)), 71, 114, 2)

    def test_ends(self):
        self.check_end(("faults", ("zero",)), 90, 1, 4, 122, 101, 114, 111)
        self.check_end(("faults", ("a", "zz", "b")), 90, 3, 1, 97, 2, 122, 122, 1, 98)

    def test_steps(self):
        self.check_step(("guard", ("true",), True), 103, 84, 1)
        self.check_step(("guard", ("false",), False), 103, 70, 0)
        self.check_step(("fine", ("arg", 0)), 102, 97, 0)
        self.check_step(("set", ("arg", 1), ("known", 1), ("arg", 2)), 115, 65, 1, 107, 1, 97, 2)
        self.check_step(("set", ("row", "p"), ("known", 1), ("arg", 2)), 115, 87, 0, 107, 1, 97, 2)
        self.check_step(("push", ("row", "q"), ("known", 2)), 112, 87, 1, 107, 2)
        self.check_step(("put", "c", ("known", 2)), 117, 0, 107, 2)
        self.check_step(("put", "d", ("known", 2)), 117, 1, 107, 2)
        self.check_step(("call", "ab", ()), 99, 2, 97, 98, 0)
        values = (("known", 1), ("arg", 1), ("row", "q"))
        self.check_step(("call", "w", values), 99, 1, 119, 3, 118, 107, 1, 108, 65, 1, 108, 87, 1)
        self.check_step(("call", "w", (("arg", 0),)), 99, 1, 119, 1, 118, 97, 0)

    def test_fails(self):
        self.check_step(("fails", ("arg", 0), "ab"), 120, 78, 97, 0, 2, 97, 98)
        self.check_step(("fails", ("cell", "d", 0), "ab"), 120, 78, 99, 1, 0, 2, 97, 98)
        self.check_step(("fails", ("place", ("arg", 1), ("known", 1), 0), "a"), 120, 80, 65, 1, 107, 1, 0, 1, 97)
        self.check_step(("fails", ("room", ("row", "q"), 0), "a"), 120, 82, 87, 1, 0, 1, 97)
        step = ("fails", ("call", "w", (("arg", 1), ("arg", 2))), "a")
        self.check_step(step, 120, 67, 1, 119, 2, 108, 65, 1, 118, 97, 2, 1, 97)
        step = ("fails", ("room", ("row", "p"), 1), "a")
        self.check_step(step, 120, 82, 87, 0, 1, 1, 97, ahead=AHEAD[:1], ahead_written=(99, 1, 119, 0))

    def test_conditions(self):
        def check(condition, *numbers):
            self.check_step(("guard", condition, True), 103, *numbers, 1)

        check(("equal", ("arg", 0), ("known", 1)), 61, 97, 0, 107, 1)
        check(("less", ("known", 1), ("arg", 0)), 60, 107, 1, 97, 0)
        check(("has", ("arg", 1), ("known", 1), 0), 104, 65, 1, 107, 1, 0)
        check(("same", ("row", "p"), ("arg", 1)), 64, 87, 0, 65, 1)
        for word, number in (("and", 38), ("or", 124), ("unlike", 94)):
            check((word, ("true",), ("same", ("row", "q"), ("row", "p"))), number, 84, 64, 87, 1, 87, 0)


class Reading(Codes):

    def tapes(self):
        for step in STEPS:
            yield Tape(WORLD, KINDS, AHEAD + (step,), GIVES)
        for end in ENDS:
            yield Tape(WORLD, KINDS, AHEAD, end)
        for seed in range(40):
            works = {"v": "n", "w": "rn"} if seed % 2 else {}
            world = (WORLD, World(2, 1, (("c", 0),), ()), World(4, 1, (), (("r", ()),)), BARE)[seed % 4]
            kinds = ("", "n", "rnr", "nnrrnn")[seed % 3 + seed % 2]
            kinds, works = (kinds, works) if world.rows else (kinds.replace("r", ""), {name: "n" for name in works})
            yield TapeMaker(seed, world, kinds, works).tape(seed % 7)

    def test_each_tape_is_read_back_as_it_was(self):
        for tape in self.tapes():
            self.check_tape(tape)
            self.assertEqual(begun(tape.world, tape.written()), (len(tape.written()), None))

    def test_all_pairs_of_nodes_and_conditions(self):
        for one, other in itertools.product(NODES, repeat=2):
            steps = AHEAD + (("guard", ("less", one, other), False), ("set", ("arg", 1), one, other))
            self.check_tape(Tape(WORLD, KINDS, steps, ("gives", ("do", "//", other, one))))
        for one, other in itertools.product(CONDITIONS, repeat=2):
            steps = AHEAD + (("guard", ("unlike", one, other), False),)
            self.check_tape(Tape(WORLD, KINDS, steps, GIVES))

    def test_cut_at_each_place(self):
        for tape in self.tapes():
            data = tape.written()
            for many in range(len(data)):
                self.raises(BadBytes, "at", many, Tape.read, tape.world, data[:many])

    def test_gone_on_with(self):
        for tape in self.tapes():
            data = tape.written()
            for more in (b"\x00", b"G", b"\x01\x02", data, b"x" * 19000):
                self.raises(BadBytes, "at", len(data), Tape.read, tape.world, data + more)

    def test_changed_at_each_place(self):
        for tape in list(self.tapes())[::5]:
            data = tape.written()
            for at in range(len(data)):
                for byte in [*range(64), *b"adgimrsuvxkcnlAWGNPRCZ=<h@&|^TF+-*/~", 127, 128, 255]:
                    self.check_bytes(tape.world, data[:at] + bytes([byte]) + data[at + 1:])

    def test_all_bytes_at_a_place(self):
        tape = Tape(WORLD, KINDS, AHEAD + STEPS[8:9] + STEPS[-2:], ENDS[9])
        data = tape.written()
        for at in range(len(data)):
            for byte in range(256):
                self.check_bytes(WORLD, data[:at] + bytes([byte]) + data[at + 1:])

    def test_left_out_and_put_in(self):
        for tape in list(self.tapes())[::5]:
            data = tape.written()
            for at in range(len(data)):
                self.check_bytes(tape.world, data[:at] + data[at + 1:])
                for byte in b"\x00\x01\x02kacG":
                    self.check_bytes(tape.world, data[:at] + bytes([byte]) + data[at:])

    def test_each_beginning_begins_a_tape(self):
        for tape in list(self.tapes())[::7]:
            data = tape.written()
            for many in range(len(data)):
                _, allowed = begun(tape.world, data[:many])
                for byte in sorted(allowed)[:30]:
                    whole = completed(tape.world, data[:many] + bytes([byte]))
                    self.assertEqual(Tape.read(tape.world, whole).written(), whole)

    def test_letters_that_cannot_stand(self):
        bare, cells = World(2, 1, (), ()), World(2, 1, (("c", 0),), ())
        for world, data, at in (
            (bare, b"\x00\x01fr\x00", 3), (bare, b"\x00\x01fi", 3), (bare, b"\x00\x01fa\x00", 3), (bare, b"\x01r", 1),
            (bare, b"\x00\x01fc\x00\x00", 3), (bare, b"\x00\x01s", 2), (bare, b"\x00\x01p", 2), (bare, b"\x00\x01u", 2),
            (bare, b"\x00\x01xP", 3), (bare, b"\x00\x01xR", 3), (bare, b"\x00\x01gh", 3), (bare, b"\x00\x01g@", 3),
            (bare, b"\x00\x01c\x01w\x01l", 6), (cells, b"\x00\x01u\x01", 3), (cells, b"\x00\x01fc\x00\x01", 5),
            (bare, b"\x07", 0), (bare, b"\x00\x3d", 1), (bare, b"\x00\x01fk\x02", 4), (bare, b"\x00\x00Z\x00", 3),
            (bare, b"\x00\x00Z\x04", 3), (bare, b"\x00\x00Z\x01\x00", 4), (bare, b"\x00\x00Z\x01\x09", 4),
            (bare, b"\x00\x01c\x01w\x04", 5), (bare, b"\x00\x01gT\x02", 4), (bare, b"\x00\x00Z\x01\x01A", 5),
            (bare, b"\x00\x01fd%", 4),
        ):
            with self.subTest(data=data):
                self.raises(BadBytes, "at", at, Tape.read, world, data)
                self.assertEqual(begun(world, data)[0], at)

    def test_the_eighth_depth(self):
        for depth in (7, 8):
            tape = Tape(WORLD, KINDS, (("fine", deep(depth)), ("guard", deep_condition(depth), True)), GIVES)
            self.check_tape(tape)
        chain = b"\x00\x01f" + b"m" * 7
        self.assertEqual(Tape.read(BARE, chain + b"k\x00Gk\x00").end, GIVES)
        for letter in b"md":
            self.raises(BadBytes, "at", 10, Tape.read, BARE, chain + bytes([letter]))
        self.raises(BadBytes, "at", 10, Tape.read, WORLD, chain + b"i")
        chain = b"\x00\x01g" + b"^" * 7
        for letter in b"=<&|^":
            self.raises(BadBytes, "at", 10, Tape.read, BARE, chain + bytes([letter]))
        for letter in b"h=":
            self.raises(BadBytes, "at", 10, Tape.read, WORLD, chain + bytes([letter]))
        self.raises(BadBytes, "at", 11, Tape.read, WORLD, chain + b"@")
        for lists in (b"W\x00W\x01", b"A\x01W\x00", b"W\x01A\x01", b"A\x01A\x01"):
            data = b"\x02nr\x01g" + b"^" * 7 + b"@" + lists + b"T" * 7 + b"\x01Gk\x00"
            self.assertEqual(Tape.read(WORLD, data).written(), data)
            self.raises(BadBytes, "at", 12, Tape.read, WORLD, data[:5] + b"^" * 8 + data[12:])
        self.check_depth_of_nodes()
        self.raises(BadBytes, "at", 11, Tape.read, BARE, chain + b"T")
        self.raises(BadBytes, "at", 12, Tape.read, BARE, b"\x00\x01g=" + b"m" * 6 + b"k\x00G")
        self.raises(BadBytes, "at", 10, Tape.read, BARE, b"\x00\x01g=" + b"m" * 7)

    def check_depth_of_nodes(self):
        """Eight deep in each place where a node may stand, and nine."""
        lead = b"\x00\x01"
        places = [(b"\x00\x00G", b""), (lead + b"f", b"Gk\x00"), (lead + b"xN", b"\x01aGk\x00"), (lead + b"c\x01w\x01v", b"Gk\x00")]
        places += [(lead + b"xC\x01w\x01v", b"\x01aGk\x00"), (lead + b"xPW\x00", b"\x00\x01aGk\x00"), (lead + b"pW\x00", b"Gk\x00")]
        places += [(lead + b"sW\x00", b"k\x00Gk\x00"), (lead + b"sW\x00k\x00", b"Gk\x00"), (lead + b"u\x00", b"Gk\x00")]
        for ahead, behind in places:
            data = ahead + b"m" * 7 + b"k\x01" + behind
            self.assertEqual(Tape.read(WORLD, data).written(), data)
            for letter in b"mdi":
                self.raises(BadBytes, "at", len(ahead) + 7, Tape.read, WORLD, ahead + b"m" * 7 + bytes([letter]) + data)
        for ahead in (lead + b"g=", lead + b"g=k\x00", lead + b"g<", lead + b"ghW\x00"):
            self.raises(BadBytes, "at", len(ahead) + 6, Tape.read, WORLD, ahead + b"m" * 7)
            self.raises(BadBytes, "at", len(ahead) + 7, Tape.read, WORLD, ahead + b"m" * 6 + b"k")

    def test_all_bytes_at_a_place_where_there_is_nothing(self):
        steps = (("fine", ("do", "//", X, ("known", 1))), ("guard", ("less", X, ("minus", X)), True), ("fails", ("known", 0), "q"))
        for tape in (Tape(BARE, "n", steps, ("faults", ("a", "bc"))), Tape(BARE, "nn", (("call", "w", (X,)),), ("gives", ("result", 0)))):
            data = tape.written()
            for at in range(len(data)):
                for byte in range(256):
                    self.check_bytes(BARE, data[:at] + bytes([byte]) + data[at + 1:])

    def test_what_is_no_bytes(self):
        for value in any_values() + ["", "\x00", [0, 0, 71, 107, 0], (0, 0, 71, 107, 0), GIVES, Tape(BARE, "", (), GIVES)]:
            if not isinstance(value, bytes):
                self.raises(BadBytes, "at", 0, Tape.read, BARE, value)
                self.raises(BadBytes, "at", 0, Tape.read, data=value, world=WORLD)
        self.raises(BadBytes, "at", 0, Tape.read, BARE, b"")
        self.raises(BadBytes, "at", 0, Tape.read, BARE, b"abc")
        self.raises(BadBytes, "at", 0, Tape.read, BARE, b"x" * 20000)

    def test_a_tape_is_read_for_another_world(self):
        for tape in list(self.tapes())[:30]:
            for world in (BARE, World(2, 1, (("c", 0),), ()), World(4, 1, (), (("r", ()),)), World(4, 1, (("a", 0),), (("b", ()),))):
                self.check_bytes(world, tape.written())


class Examples(unittest.TestCase, Refusing):

    def test_a_guard(self):
        world = World(2, 1, (("c", 0),), ())
        tape = Tape(world, "n", (("guard", ("less", ("arg", 0), ("cell", "c", 0)), True),), ("gives", ("cell", "c", 0)))
        self.assertEqual(list(tape.written()), [1, 110, 1, 103, 60, 97, 0, 99, 0, 0, 1, 71, 99, 0, 0])
        self.raises(BadBytes, "at", 3, Tape.read, world, tape.written()[:3])


if __name__ == "__main__":
    unittest.main()
