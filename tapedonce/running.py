"""Runs of tapes: step by step, without any choice."""

from tapedonce.errors import Fault
from tapedonce.numbers import worth_made
from tapedonce.scenes import Scene
from tapedonce.stands import items_in, worth_in


class TapeRun:
    """A run of a tape upon a scene; its calls are told by keepers."""

    def __init__(self, scene, keepers, values, depth):
        self._scene = scene
        self._keepers = keepers
        self._values = values
        self._depth = depth
        # The stand as it was when so many writes were done.
        self._stands = [scene.stand]
        self._answers = {}

    def told(self, steps, end):
        """What the run tells, None if it is off."""
        try:
            for at, step in enumerate(steps):
                if not self._goes_on(at, step):
                    return None
            if end[0] == "gives":
                return "gives", self._number(end[1])
        # What is worked out with a fault is off.
        except Fault:
            return None
        return end

    def _goes_on(self, at, step):
        """Does a step; whether the run is not off by it."""
        word = step[0]
        if word == "guard":
            return self._is_true(step[1]) == step[2]
        if word == "fine":
            self._number(step[1])
            return True
        if word == "put":
            return self._written(step[1], self._number(step[2]))
        if word == "set":
            return self._set(self._row_name(step[1]), self._number(step[2]), self._number(step[3]))
        if word == "push":
            return self._pushed(self._row_name(step[1]), self._number(step[2]))
        if word == "call":
            told = self._called(step[1], step[2])
            self._answers[at] = told[1]
            return told[0] == "gives"
        return self._word_of(step[1]) == step[2]

    def _written(self, name, thing):
        self._scene.write(name, thing)
        self._stands.append(self._scene.stand)
        return True

    def _set(self, name, at, worth):
        there = self._scene.items_of(name)
        if at >= len(there):
            return False
        return self._written(name, there[:at] + (worth,) + there[at + 1:])

    def _pushed(self, name, worth):
        there = self._scene.items_of(name)
        if len(there) == self._scene.of_world.most:
            return False
        return self._written(name, there + (worth,))

    def _called(self, name, values):
        """What a call by a keeper tells: a write, whatever comes of it."""
        handed = tuple([self._handed(value) for value in values])
        told = self._keepers.told_by_keeper(name, handed, self._depth + 1)
        self._stands.append(self._scene.stand)
        return told

    def _handed(self, value):
        if value[0] == "row":
            return value[1]
        # What was handed in is told as it is, a number or the name of a row.
        return self._number(value)

    def _word_of(self, what):
        """The word of the Fault that something raises, None if it raises none; its parts are worked out first."""
        if what[0] in ("place", "item"):
            return "index" if self._number(what[2]) >= len(self._items_at(what[1], what[3])) else None
        if what[0] == "room":
            return "full" if len(self._items_at(what[1], what[2])) == self._scene.of_world.most else None
        if what[0] == "call":
            told = self._called(what[1], what[2])
            return told[1][0] if told[0] == "faults" else None
        if what[0] == "do" and what[1] == "//":
            self._number(what[2])
            return "zero" if self._number(what[3]) == 0 else None
        return None

    def _row_name(self, row_list):
        """The name of the row that a list is."""
        if row_list[0] == "row":
            return row_list[1]
        return self._values[row_list[1]]

    def _items_at(self, row_list, time):
        return items_in(self._scene.of_world, self._stands[time], self._row_name(row_list))

    def _number(self, node):
        """The worth of a node."""
        word = node[0]
        if word == "known":
            return node[1]
        if word == "arg":
            return self._values[node[1]]
        if word == "cell":
            return worth_in(self._scene.of_world, self._stands[node[2]], node[1])
        if word == "result":
            return self._answers[node[1]]
        if word == "item":
            return self._item(self._number(node[2]), self._items_at(node[1], node[3]))
        size = self._scene.of_world.size
        if word == "minus":
            return worth_made("-", size, 0, self._number(node[1]))
        one, other = self._number(node[2]), self._number(node[3])
        if node[1] == "//" and other == 0:
            raise Fault(("zero",))
        return worth_made(node[1], size, one, other)

    def _item(self, at, there):
        if at >= len(there):
            raise Fault(("index",))
        return there[at]

    def _is_true(self, condition):
        """Whether a condition holds; both of two conditions are worked out."""
        word = condition[0]
        if word in ("true", "false"):
            return word == "true"
        if word == "has":
            return self._number(condition[2]) < len(self._items_at(condition[1], condition[3]))
        if word == "same":
            return self._row_name(condition[1]) == self._row_name(condition[2])
        if word in ("equal", "less"):
            one, other = self._number(condition[1]), self._number(condition[2])
            return one == other if word == "equal" else one < other
        holds, also = self._is_true(condition[1]), self._is_true(condition[2])
        if word == "and":
            return holds and also
        return holds or also if word == "or" else holds != also


def told_at(world, text, stand, values):
    """What a held run of a tape without calls tells from a stand on, and what it leaves; None if it is off."""
    scene = Scene(world, stand)
    told = TapeRun(scene, None, values, 1).told(text[0], text[1])
    if told is None:
        return None
    return told, scene.stand[0], scene.stand[1]
