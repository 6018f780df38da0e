"""The texts of tapes: which steps and ends, nodes and conditions there are, and where each of them may stand."""

from tapedonce.forms import is_name, is_whole
from tapedonce.worlds import MOST_VALUES

MOST_KINDS = 6
MOST_STEPS = 60
MOST_DEPTH = 8
MOST_WORDS = 3

# What stands behind the first word of each sort of thing, part by part.
PARTS = {
    ("node", "known"): ("worth",),
    ("node", "arg"): ("number value",),
    ("node", "cell"): ("cell", "time"),
    ("node", "item"): ("list", "node", "time"),
    ("node", "do"): ("sign", "node", "node"),
    ("node", "minus"): ("node",),
    ("node", "result"): ("answer",),
    ("list", "arg"): ("row value",),
    ("list", "row"): ("row",),
    ("condition", "equal"): ("node", "node"),
    ("condition", "less"): ("node", "node"),
    ("condition", "has"): ("list", "node", "time"),
    ("condition", "same"): ("list", "list"),
    ("condition", "and"): ("condition", "condition"),
    ("condition", "or"): ("condition", "condition"),
    ("condition", "unlike"): ("condition", "condition"),
    ("condition", "true"): (),
    ("condition", "false"): (),
    ("step", "guard"): ("condition", "truth"),
    ("step", "fine"): ("node",),
    ("step", "set"): ("list", "node", "node"),
    ("step", "push"): ("list", "node"),
    ("step", "put"): ("cell", "node"),
    ("step", "call"): ("name", "values"),
    ("step", "fails"): ("what", "name"),
    ("what", "place"): ("list", "node", "time"),
    ("what", "room"): ("list", "time"),
    ("what", "call"): ("name", "values"),
    ("end", "gives"): ("node",),
    ("end", "faults"): ("words",),
}

SIGNS = ("+", "-", "*", "//")

# Beside these, all calls write, within fails, too.
WRITING = ("set", "push", "put")


class View:
    """What can be named at a place of a tape: by its world and its kinds, and by the steps ahead of it."""

    def __init__(self, world, kinds):
        self.of_world = world
        self.of_kinds = kinds
        self.writes = 0
        self.answers = []
        self._passed = 0

    def pass_step(self, step):
        """Goes on behind a step."""
        if step[0] == "call":
            self.answers.append(self._passed)
        if step[0] in WRITING or call_of(step) is not None:
            self.writes = self.writes + 1
        self._passed = self._passed + 1

    def numbers_of(self, kind):
        """The numbers of the values of a kind."""
        return [at for at, found in enumerate(self.of_kinds) if found == kind]


def call_of(step):
    """(name, values) of a step call, or of a fails of a call; None of all others."""
    if step[0] == "call":
        return step[1:]
    if step[0] == "fails" and step[1][0] == "call":
        return step[1][1:]
    return None


def has_call(steps):
    """Whether a call is among some steps, within fails, too."""
    return any([call_of(step) is not None for step in steps])


def is_list(kinds, value):
    """Whether one of the values of a call is a list; of what was handed in, the kind tells it."""
    return value[0] == "row" or value[0] == "arg" and kinds[value[1]] == "r"


def are_steps(view, value):
    """Whether value is steps of a tape; behind this the view is that of the end."""
    if not isinstance(value, tuple) or len(value) > MOST_STEPS:
        return False
    for step in value:
        if not _is_of_sort(view, "step", step, 0):
            return False
        view.pass_step(step)
    return True


def is_end(view, value):
    """Whether value is an end of a tape."""
    return _is_of_sort(view, "end", value, 0)


def is_text(world, kinds, steps, end):
    """Whether steps and end are those of a Tape of this world and of these kinds."""
    view = View(world, kinds)
    return are_steps(view, steps) and is_end(view, end)


def is_shallow(node, depth=MOST_DEPTH):
    """Whether a number's node is at most so deep."""
    if depth == 0:
        return False
    # A list in it counts as a node here: a number's node that has one has a node beside it, at least as deep.
    return all([is_shallow(part, depth - 1) for part in node if isinstance(part, tuple)])


def _is_of_sort(view, sort, value, depth):
    """Whether value is one of the things of a sort, standing so deep."""
    # What is too deep is not looked into: it may be too large for that.
    if depth > MOST_DEPTH or not isinstance(value, tuple) or not value or not isinstance(value[0], str):
        return False
    parts = PARTS.get((sort, value[0]))
    if parts is None or len(parts) != len(value) - 1:
        return False
    return all([_is_part(view, part, found, depth) for part, found in zip(parts, value[1:])])


def _is_part(view, part, value, depth):
    if part in ("node", "condition"):
        return _is_of_sort(view, part, value, depth + 1)
    if part == "list":
        # A list is no depth of its own: a condition same with two of them is one deep.
        return _is_of_sort(view, part, value, 0)
    if part == "values":
        return isinstance(value, tuple) and len(value) <= MOST_VALUES and all([_is_handed(view, x) for x in value])
    if part == "words":
        return isinstance(value, tuple) and 1 <= len(value) <= MOST_WORDS and all([is_name(word) for word in value])
    if part == "what":
        return _is_of_sort(view, "what", value, 0) or _is_of_sort(view, "node", value, 1)
    if part == "name":
        return is_name(value)
    if part == "truth":
        return isinstance(value, bool)
    if part == "sign":
        return value in SIGNS
    return _is_named(view, part, value)


def _is_handed(view, value):
    return _is_of_sort(view, "node", value, 1) or _is_of_sort(view, "list", value, 0)


def _is_named(view, part, value):
    """Whether value names what there is in the world, among the values, or ahead of this place."""
    world = view.of_world
    if part == "cell":
        return isinstance(value, str) and world.cell_number(value) is not None
    if part == "row":
        return isinstance(value, str) and world.row_number(value) is not None
    if part == "worth":
        return is_whole(value, 0, world.size)
    if part == "time":
        return is_whole(value, 0, view.writes + 1)
    if not is_whole(value, 0, MOST_STEPS):
        return False
    if part == "answer":
        return value in view.answers
    return value in view.numbers_of("r" if part == "row value" else "n")
