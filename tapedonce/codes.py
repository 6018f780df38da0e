"""Tapes as bytes, written and read."""

from tapedonce.errors import BadBytes
from tapedonce.forms import LETTERS, MOST_LETTERS
from tapedonce.texts import MOST_DEPTH, MOST_KINDS, MOST_STEPS, MOST_WORDS, PARTS, SIGNS, View, is_list
from tapedonce.worlds import MOST_VALUES

# The letter of each thing that has one; what is a node besides has NODE ahead of it.
SIGN_OF = {
    ("step", "guard"): "g", ("step", "fine"): "f", ("step", "set"): "s", ("step", "push"): "p",
    ("step", "put"): "u", ("step", "call"): "c", ("step", "fails"): "x",
    ("what", "place"): "P", ("what", "room"): "R", ("what", "call"): "C",
    ("node", "known"): "k", ("node", "arg"): "a", ("node", "cell"): "c", ("node", "item"): "i",
    ("node", "do"): "d", ("node", "minus"): "m", ("node", "result"): "r",
    ("list", "arg"): "A", ("list", "row"): "W",
    ("condition", "equal"): "=", ("condition", "less"): "<", ("condition", "has"): "h", ("condition", "same"): "@",
    ("condition", "and"): "&", ("condition", "or"): "|", ("condition", "unlike"): "^",
    ("condition", "true"): "T", ("condition", "false"): "F",
    ("end", "gives"): "G", ("end", "faults"): "Z",
}

NODE = "N"
HANDED_NODE = "v"
HANDED_LIST = "l"


class Writer:
    """Writes a tape byte by byte."""

    def __init__(self, world, kinds):
        self._view = View(world, kinds)
        self._bytes = []

    def written(self, steps, end):
        """The bytes of the whole tape."""
        kinds = self._view.of_kinds
        self._bytes.extend([len(kinds)] + [ord(kind) for kind in kinds] + [len(steps)])
        for step in steps:
            self._write("step", step)
        self._write("end", end)
        return bytes(self._bytes)

    def _write(self, sort, thing):
        self._bytes.append(ord(SIGN_OF[(sort, thing[0])]))
        for part, found in zip(PARTS[(sort, thing[0])], thing[1:]):
            self._write_part(part, found)

    def _write_part(self, part, found):
        world = self._view.of_world
        if part in ("node", "condition", "list"):
            self._write(part, found)
        elif part == "what":
            self._write_what(found)
        elif part == "values":
            self._write_values(found)
        elif part == "words":
            self._bytes.append(len(found))
            for word in found:
                self._write_name(word)
        elif part == "name":
            self._write_name(found)
        elif part == "cell":
            self._bytes.append(world.cell_number(found))
        elif part == "row":
            self._bytes.append(world.row_number(found))
        elif part == "sign":
            self._bytes.append(ord(found[0]))
        else:
            self._bytes.append(int(found))

    def _write_what(self, what):
        if ("what", what[0]) in PARTS:
            self._write("what", what)
        else:
            self._bytes.append(ord(NODE))
            self._write("node", what)

    def _write_values(self, values):
        self._bytes.append(len(values))
        for value in values:
            is_row = is_list(self._view.of_kinds, value)
            self._bytes.append(ord(HANDED_LIST if is_row else HANDED_NODE))
            self._write("list" if is_row else "node", value)

    def _write_name(self, name):
        self._bytes.append(len(name))
        self._bytes.extend([ord(letter) for letter in name])


class Reader:
    """Reads a tape byte by byte, and stops at the first one that cannot stand where it stands."""

    def __init__(self, world, data):
        self._world = world
        self._data = data
        self._at = 0
        self._view = View(world, "")

    def whole(self):
        """(kinds, steps, end) of the whole tape."""
        kinds = "nr" if self._world.rows else "n"
        self._view = View(self._world, "".join([self._sign(kinds) for _ in range(self._below(MOST_KINDS + 1))]))
        steps = tuple([self._step() for _ in range(self._below(MOST_STEPS + 1))])
        end = self._thing("end", 0)
        if self._at < len(self._data):
            raise BadBytes(self._at)
        return self._view.of_kinds, steps, end

    def _step(self):
        step = self._thing("step", 0)
        self._view.pass_step(step)
        return step

    def _one_of(self, allowed):
        """The next byte, if it is among those that may stand here."""
        if self._at == len(self._data) or self._data[self._at] not in allowed:
            raise BadBytes(self._at)
        self._at = self._at + 1
        return self._data[self._at - 1]

    def _below(self, many):
        """The next byte, a number below so many."""
        return self._one_of(list(range(many)))

    def _sign(self, signs):
        """The sign that the next byte stands for, one of some signs."""
        allowed = [ord(sign) for sign in signs]
        return signs[allowed.index(self._one_of(allowed))]

    def _thing(self, sort, depth):
        """A thing of a sort that stands so deep."""
        words = [word for one, word in PARTS if one == sort and self._may_stand(one, word, depth)]
        word = words[self._place_of([SIGN_OF[(sort, found)] for found in words])]
        return self._behind(sort, word, depth)

    def _behind(self, sort, word, depth):
        """A thing of which the sign is read."""
        return (word,) + tuple([self._part(part, depth) for part in PARTS[(sort, word)]])

    def _place_of(self, signs):
        """At which place among some signs the one is that the next byte stands for."""
        return signs.index(self._sign(signs))

    def _may_stand(self, sort, word, depth):
        return all([self._can_be(part, depth) for part in PARTS[(sort, word)]])

    def _can_be(self, part, depth):
        """Whether there is anything that such a part of a thing could be."""
        if part in ("node", "condition"):
            return depth < MOST_DEPTH
        if part == "list":
            return len(self._world.rows) > 0
        if part == "cell":
            return len(self._world.cells) > 0
        if part in ("answer", "number value", "row value"):
            return len(self._may_be(part)) > 0
        return True

    def _may_be(self, part):
        """The numbers that may stand as such a part."""
        if part == "answer":
            return self._view.answers
        if part in ("number value", "row value"):
            return self._view.numbers_of("r" if part == "row value" else "n")
        return list(range(self._view.writes + 1 if part == "time" else self._world.size))

    def _part(self, part, depth):
        if part in ("node", "condition", "list"):
            return self._thing(part, depth + 1)
        if part == "what":
            return self._what()
        if part == "values":
            return tuple([self._handed() for _ in range(self._below(MOST_VALUES + 1))])
        if part == "words":
            many = self._one_of(list(range(1, MOST_WORDS + 1)))
            return tuple([self._name() for _ in range(many)])
        if part == "name":
            return self._name()
        if part == "cell":
            return self._world.cells[self._below(len(self._world.cells))][0]
        if part == "row":
            return self._world.rows[self._below(len(self._world.rows))][0]
        if part == "truth":
            return self._below(2) == 1
        if part == "sign":
            return SIGNS[self._place_of([sign[0] for sign in SIGNS])]
        return self._one_of(self._may_be(part))

    def _what(self):
        words = [word for word in ("place", "room", "call") if self._may_stand("what", word, 0)]
        at = self._place_of([SIGN_OF[("what", word)] for word in words] + [NODE])
        if at == len(words):
            return self._thing("node", 1)
        return self._behind("what", words[at], 0)

    def _handed(self):
        signs = [HANDED_NODE, HANDED_LIST] if self._world.rows else [HANDED_NODE]
        return self._thing("list" if self._sign(signs) == HANDED_LIST else "node", 1)

    def _name(self):
        many = self._one_of(list(range(1, MOST_LETTERS + 1)))
        return "".join([self._sign(LETTERS) for _ in range(many)])


def bytes_of(world, kinds, steps, end):
    """The bytes of a tape."""
    return Writer(world, kinds).written(steps, end)


def parts_of(world, data):
    """(kinds, steps, end) of the tape of a world that is so written."""
    if not isinstance(data, bytes):
        raise BadBytes(0)
    return Reader(world, data).whole()
