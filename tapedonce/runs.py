"""Taping runs: works do what they do in plain runs, and what tapes need is written down beside."""

from tapedonce.carried import (
    Carried, CarriedFault, CarriedRow, Condition, as_carried, is_known, is_settled, same_row,
)
from tapedonce.errors import Fault
from tapedonce.plain import answered
from tapedonce.tallies import LONG, Tally, with_causes
from tapedonce.texts import is_text


class TapingRun:
    """What a taping run has written, and where it is: also for the rows that it carries."""

    def __init__(self, keepers, depth):
        self._keepers = keepers
        self._lines = []
        self._named = {}
        self._last_put = {}
        self.knows = keepers.by_plan.known
        self.scene = keepers.scene
        self.of_size = keepers.of_setup.world.size
        self.tally = Tally(depth)
        self.time = 0
        self.own_calls = 0

    def has_guard(self, name):
        """Whether the plan has a guard of this name."""
        return name in self._keepers.by_plan.guards

    def write(self, step):
        """Writes a step that changes nothing."""
        self._lines.append(step)

    def write_fails(self, what, word):
        """Writes that something raises a Fault, if that is written at all."""
        if what is not None:
            self._lines.append(("fails", what, word))

    def write_row(self, name, worths, step):
        """Changes a row of the world, and writes how."""
        self.scene.write(name, worths)
        self._lines.append(step)
        self.time = self.time + 1

    def cell(self, name):
        """The number of a cell, known if it was put there and no other run came between."""
        worth = self.scene.worth_of(name)
        node, own_calls = self._last_put.get(name, (None, None))
        if not self.knows or own_calls != self.own_calls:
            node = ("cell", name, self.time)
        return Carried(self.of_size, worth, node)

    def put(self, name, number):
        """Puts a carried number into a cell, and writes it."""
        self.scene.write(name, number.worth)
        self._lines.append(("put", name, number.node))
        self.time = self.time + 1
        self._last_put[name] = (number.node, self.own_calls)

    def row_named(self, name):
        """The one carried row of this name."""
        if name not in self._named:
            self._named[name] = CarriedRow(self, name, ("row", name))
        return self._named[name]

    def handed_in(self, kinds, values):
        """The values of the call that is taped, carried."""
        found = []
        for at, value in enumerate(values):
            if kinds[at] == "r":
                found.append(CarriedRow(self, value, ("arg", at)))
            else:
                found.append(Carried(self.of_size, value, ("arg", at)))
        return found

    def answer_of(self, value):
        """The carried number that a work answers; what is none is a fault."""
        if isinstance(value, Carried):
            return value
        return as_carried(self.of_size, answered(self.of_size, value))

    def call_here(self, hand, name, handed):
        """The answer of a work that is run on this tape."""
        setup = self._keepers.of_setup
        work = setup.works[setup.work_number(name)][1]
        return self.answer_of(self.tally.run_deeper(work, hand, handed))

    def call_by_keeper(self, name, handed):
        """The answer of a work that is called by its keeper."""
        self.tally.check_depth()
        values = tuple([value.name if isinstance(value, CarriedRow) else value.worth for value in handed])
        told = self._keepers.told_by_keeper(name, values, self.tally.depth + 1)
        self.time = self.time + 1
        self.own_calls = self.own_calls + 1
        noted = tuple([value.place if isinstance(value, CarriedRow) else value.node for value in handed])
        if told[0] == "faults":
            raise CarriedFault(told[1], ("call", name, noted))
        self._lines.append(("call", name, noted))
        return Carried(self.of_size, told[1], ("result", len(self._lines) - 1))

    def text(self, kinds, end):
        """The tape's text, None if there is none."""
        if end[0] == "faults" and end[1][0] == LONG:
            return None
        steps = tuple(self._lines)
        if not is_text(self.scene.of_world, kinds, steps, end):
            return None
        return steps, end

    def is_own(self, name):
        """Whether a work is called by its keeper."""
        return name in self._keepers.by_plan.own


class TapingHand:
    """What works are given in a taping run: one hand for all works on one tape."""

    def __init__(self, run):
        self._run = run

    def holds(self, truth, name):
        run = self._run
        run.tally.count_thing()
        if isinstance(truth, Condition) and not is_settled(truth.node) and run.has_guard(name):
            run.write(("guard", truth.node, truth.truth))
        return bool(truth)

    def fine(self, x, name):
        run = self._run
        run.tally.count_thing()
        if isinstance(x, Carried) and not is_known(x.node) and run.has_guard(name):
            run.write(("fine", x.node))
        return x

    def cell(self, name):
        self._run.tally.count_thing()
        return self._run.cell(name)

    def put(self, name, x):
        self._run.tally.count_thing()
        self._run.put(name, as_carried(self._run.of_size, x))

    def row(self, name):
        self._run.tally.count_thing()
        return self._run.row_named(name)

    def same(self, one, other):
        self._run.tally.count_thing()
        return same_row(one, other)

    def call(self, name, *values):
        run = self._run
        run.tally.count_thing()
        handed = [value if isinstance(value, CarriedRow) else as_carried(run.of_size, value) for value in values]
        if run.is_own(name):
            return run.call_by_keeper(name, handed)
        return run.call_here(self, name, handed)

    def fail(self, word):
        self._run.tally.count_thing()
        raise Fault((word,))

    def tried(self, look, other):
        self._run.tally.count_thing()
        try:
            return look()
        except CarriedFault as carried:
            words, what = carried.words, carried.what
        except Fault as fault:
            words, what = fault.words, None
        if words[0] == LONG:
            raise Fault(words)
        self._run.write_fails(what, words[0])
        return _instead(other, words)


def _instead(other, words):
    """What other returns for the word of a fault; if it faults itself, the fault's words come behind its own."""
    try:
        return other(words[0])
    except CarriedFault as carried:
        raise CarriedFault(with_causes(carried.words, words), carried.what)
    except Fault as fault:
        raise Fault(with_causes(fault.words, words))


def taping_run(keepers, number, values, depth):
    """What a taping run of a work tells that stands so deep, and the text of its tape, None if it has none."""
    _, work, kinds = keepers.of_setup.works[number]
    run = TapingRun(keepers, depth - 1)
    try:
        answer = run.answer_of(run.tally.run_deeper(work, TapingHand(run), run.handed_in(kinds, values)))
        told, end = ("gives", answer.worth), ("gives", answer.node)
    except CarriedFault as carried:
        run.write_fails(carried.what, carried.words[0])
        told = end = ("faults", carried.words)
    except Fault as fault:
        told = end = ("faults", fault.words)
    return told, run.text(kinds, end)
