"""Tapes: rows of steps without any choice; and lots, in which the first tape that is not off tells."""

from tapedonce.codes import bytes_of, parts_of
from tapedonce.errors import BadEnd, BadKinds, BadPlace, BadSteps, BadTape, Empty, NoKey, TooMany
from tapedonce.forms import are_kinds, is_whole
from tapedonce.running import told_at
from tapedonce.stands import are_values, is_stand
from tapedonce.texts import MOST_KINDS, View, are_steps, has_call, is_end

MOST_TAPES = 12


class Tape:
    """A row of steps and an end, for values of some kinds in a world."""

    def __init__(self, world, kinds, steps, end):
        if not are_kinds(kinds, MOST_KINDS, bool(world.rows)):
            raise BadKinds(kinds)
        view = View(world, kinds)
        if not are_steps(view, steps):
            raise BadSteps(steps)
        if not is_end(view, end):
            raise BadEnd(end)
        self._world = world
        self._kinds = kinds
        self._steps = steps
        self._end = end

    @property
    def world(self):
        return self._world

    @property
    def kinds(self):
        return self._kinds

    @property
    def steps(self):
        return self._steps

    @property
    def end(self):
        return self._end

    def __eq__(self, other):
        if not isinstance(other, Tape):
            return False
        if self._world != other.world or self._kinds != other.kinds:
            return False
        return self._steps == other.steps and self._end == other.end

    def __call__(self, worths, items, values):
        if has_call(self._steps):
            raise BadTape(self)
        check_key(self, worths, items, values)
        return told_at(self._world, (self._steps, self._end), (worths, items), values)

    def __or__(self, other):
        if has_call(self._steps):
            raise BadTape(self)
        return _lot_of_both(self, (self,), other)

    def written(self):
        """The tape as bytes."""
        return bytes_of(self._world, self._kinds, self._steps, self._end)

    @classmethod
    def read(cls, world, data):
        """The tape of this world that is so written."""
        kinds, steps, end = parts_of(world, data)
        return cls(world, kinds, steps, end)


class Lot:
    """Tapes of one world and the same kinds, one behind the other."""

    def __init__(self, *tapes):
        if not tapes:
            raise Empty()
        for tape in tapes:
            if not is_like(tapes[0], tape):
                raise BadTape(tape)
        if len(tapes) > MOST_TAPES:
            raise TooMany(MOST_TAPES)
        self._tapes = tapes

    @property
    def tapes(self):
        return self._tapes

    def __eq__(self, other):
        return isinstance(other, Lot) and self._tapes == other.tapes

    def __call__(self, worths, items, values):
        check_key(self._tapes[0], worths, items, values)
        for tape in self._tapes:
            told = told_at(tape.world, (tape.steps, tape.end), (worths, items), values)
            if told is not None:
                return told
        return None

    def __len__(self):
        return len(self._tapes)

    def __contains__(self, x):
        return any([tape == x for tape in self._tapes])

    def __getitem__(self, at):
        if not is_whole(at, 0, len(self._tapes)):
            raise BadPlace(at)
        return self._tapes[at]

    def __setitem__(self, at, worth):
        if not is_whole(at, 0, len(self._tapes)):
            raise BadPlace(at)
        if not is_like(self._tapes[0], worth):
            raise BadTape(worth)
        self._tapes = self._tapes[:at] + (worth,) + self._tapes[at + 1:]

    # Without this, Python would iterate by places until a BadPlace comes.
    def __iter__(self):
        raise TypeError("a lot is not iterated over, its tapes are")

    def __iadd__(self, other):
        if not is_like(self._tapes[0], other):
            raise BadTape(other)
        if len(self._tapes) == MOST_TAPES:
            raise TooMany(MOST_TAPES)
        self._tapes = self._tapes + (other,)
        return self

    def __or__(self, other):
        return _lot_of_both(self._tapes[0], self._tapes, other)


def is_like(first, value):
    """Whether any value is a tape that may stand in a lot behind the first one, if that one is a tape."""
    if not isinstance(value, Tape) or has_call(value.steps):
        return False
    return first.world == value.world and first.kinds == value.kinds


def check_key(tape, worths, items, values):
    """Lets no key pass that is none of a tape's world and kinds."""
    if not is_stand(tape.world, (worths, items)) or not are_values(tape.world, tape.kinds, values):
        raise NoKey((worths, items, values))


def _lot_of_both(first, tapes, other):
    """The lot of some tapes, and of those of other behind them."""
    behind = other.tapes if isinstance(other, Lot) else (other,)
    if not all([is_like(first, tape) for tape in behind]):
        raise BadTape(other)
    both = tapes + behind
    return Lot(*both)
