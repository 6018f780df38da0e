"""Plain runs: works do all at once, and nothing is written."""

from tapedonce.errors import BadDeed, BadStand, Fault
from tapedonce.forms import is_whole
from tapedonce.numbers import Number, worth_of
from tapedonce.rows import Row
from tapedonce.stands import is_deed, is_stand, with_thing
from tapedonce.tallies import LONG, Tally, with_causes


class WorldRow(Row):
    """A row of the world; what is written to it is a thing of the work that is run."""

    def __init__(self, world, name, worths, tally):
        super().__init__(world.size, world.most, worths)
        self.name = name
        self._tally = tally

    def __setitem__(self, at, worth):
        self._tally.count_thing()
        self._set_item(at, worth)

    def __iadd__(self, other):
        self._tally.count_thing()
        self._push_item(other)
        return self


class PlainHand:
    """What works are given in a plain run: one hand for a whole call."""

    def __init__(self, setup, stand):
        world = setup.world
        self._setup = setup
        self._tally = Tally(0)
        self._worths = {cell[0]: worth for cell, worth in zip(world.cells, stand[0])}
        self._by_name = {
            row[0]: WorldRow(world, row[0], worths, self._tally) for row, worths in zip(world.rows, stand[1])
        }

    def holds(self, truth, name):
        self._tally.count_thing()
        return bool(truth)

    def fine(self, x, name):
        self._tally.count_thing()
        return x

    def cell(self, name):
        self._tally.count_thing()
        return Number(self._setup.world.size, self._worths[name])

    def put(self, name, x):
        self._tally.count_thing()
        self._worths[name] = worth_of(x)

    def row(self, name):
        self._tally.count_thing()
        return self._by_name[name]

    def same(self, one, other):
        self._tally.count_thing()
        return one.name == other.name

    def call(self, name, *values):
        self._tally.count_thing()
        return Number(self._setup.world.size, self._worth_answered(name, values))

    def fail(self, word):
        self._tally.count_thing()
        raise Fault((word,))

    def tried(self, look, other):
        self._tally.count_thing()
        try:
            return look()
        except Fault as fault:
            words = fault.words
            if words[0] == LONG:
                raise
        return _instead(other, words)

    def outermost(self, name, values):
        """The worth that a work answers which is not called by a work."""
        handed = [self._by_name[value] if isinstance(value, str) else value for value in values]
        return self._worth_answered(name, handed)

    def left(self):
        """The stand as it is now."""
        worths = [self._worths[cell[0]] for cell in self._setup.world.cells]
        rows = [self._by_name[row[0]].worths for row in self._setup.world.rows]
        return tuple(worths), tuple(rows)

    def _worth_answered(self, name, handed):
        size = self._setup.world.size
        values = [value if isinstance(value, Row) else Number(size, worth_of(value)) for value in handed]
        work = self._setup.works[self._setup.work_number(name)][1]
        return answered(size, self._tally.run_deeper(work, self, values))


def answered(size, answer):
    """The worth of an answer; what is none is a fault."""
    if isinstance(answer, Number):
        if answer.size == size:
            return answer.worth
    elif is_whole(answer, 0, size):
        return answer
    raise Fault(("kind",))


def _instead(other, words):
    """What other returns for the word of a fault; if it faults itself, the fault's words come behind its own."""
    try:
        return other(words[0])
    except Fault as fault:
        raise Fault(with_causes(fault.words, words))


def plainly(setup, stand, deed):
    """What a deed tells and leaves if no tape is ever written or run."""
    if not is_stand(setup.world, stand):
        raise BadStand(stand)
    if not is_deed(setup, deed):
        raise BadDeed(deed)
    return done_plainly(setup, stand, deed)


def done_plainly(setup, stand, deed):
    """What plainly tells of a stand and a deed that are known to be such."""
    if deed[0] == "change":
        return None, with_thing(setup.world, stand, deed[1], deed[2])
    hand = PlainHand(setup, stand)
    try:
        told = ("gives", hand.outermost(deed[1], deed[2]))
    except Fault as fault:
        told = ("faults", fault.words)
    return told, hand.left()
