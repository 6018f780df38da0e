"""Doings: what tapes, lots of tapes and plain runs tell at each key of a world."""

from tapedonce.errors import BadDoing, BadKinds, BadTape, NoKey
from tapedonce.forms import are_alike, are_kinds, is_name, is_whole
from tapedonce.keyed import all_keys, check_few, is_key
from tapedonce.plain import done_plainly
from tapedonce.stands import is_stand
from tapedonce.tapes import Lot, Tape
from tapedonce.texts import MOST_WORDS, has_call
from tapedonce.worlds import MOST_VALUES, Setup

MOST_LETTERS = 4


class Doing:
    """What is told at each key of a world and some kinds."""

    def __init__(self, world, kinds, table):
        check_kinds(world, kinds, MOST_LETTERS)
        check_few(world, kinds)
        if not _is_table(world, kinds, table):
            raise BadDoing(table)
        self._world = world
        self._kinds = kinds
        self._table = table
        self._by_key = {row[:3]: row[3] for row in table}

    @property
    def world(self):
        return self._world

    @property
    def kinds(self):
        return self._kinds

    @property
    def table(self):
        return self._table

    def __getitem__(self, at):
        if not is_key(self._world, self._kinds, at):
            raise NoKey(at)
        return self._by_key[at]

    # Without this, Python would iterate by places until a NoKey comes.
    def __iter__(self):
        raise TypeError("a doing is not iterated over, its table is")

    def __contains__(self, x):
        return is_key(self._world, self._kinds, x) and self._by_key[x] is not None

    def __len__(self):
        return len([row for row in self._table if row[3] is not None])

    def __eq__(self, other):
        if not isinstance(other, Doing):
            return False
        return self._world == other.world and self._kinds == other.kinds and self._table == other.table

    def __le__(self, other):
        if not isinstance(other, Doing):
            return NotImplemented
        return _is_within(self, other)

    def __lt__(self, other):
        if not isinstance(other, Doing):
            return NotImplemented
        return _is_within(self, other) and self._table != other.table

    def __ge__(self, other):
        if not isinstance(other, Doing):
            return NotImplemented
        return _is_within(other, self)

    def __gt__(self, other):
        if not isinstance(other, Doing):
            return NotImplemented
        return _is_within(other, self) and self._table != other.table

    def __and__(self, other):
        if not isinstance(other, Doing):
            return NotImplemented
        kinds, many = self._kinds + other.kinds, len(self._kinds)
        check_kinds(self._world, kinds, MOST_LETTERS)
        return Doing(self._world, kinds, tuple([
            (*key, _behind(self[key[0], key[1], key[2][:many]], other, key[2][many:]))
            for key in all_keys(self._world, kinds)
        ]))

    def __or__(self, other):
        if not isinstance(other, Doing):
            return NotImplemented
        return Doing(self._world, self._kinds, tuple([
            row if row[3] is not None else otherwise for row, otherwise in zip(self._table, other.table)
        ]))


def check_kinds(world, kinds, most):
    """Lets nothing pass that is no kinds of so many letters at most."""
    if not are_kinds(kinds, most, bool(world.rows)):
        raise BadKinds(kinds)


def doing_of(tape):
    """The Doing of the held runs of a Tape, or of a Lot, without calls."""
    if isinstance(tape, Lot):
        first = tape.tapes[0]
    elif isinstance(tape, Tape) and not has_call(tape.steps):
        first = tape
    else:
        raise BadTape(tape)
    check_kinds(first.world, first.kinds, MOST_LETTERS)
    check_few(first.world, first.kinds)
    return Doing(first.world, first.kinds, tuple([
        (*key, tape(key[0], key[1], key[2])) for key in all_keys(first.world, first.kinds)
    ]))


def doing_plainly(world, kinds, work):
    """The Doing of the plain runs of a function that calls no work."""
    check_kinds(world, kinds, MOST_VALUES)
    check_few(world, kinds)
    setup = Setup(world, (("work", work, kinds),), 1)
    return Doing(world, kinds, tuple([(*key, _told_plainly(setup, key)) for key in all_keys(world, kinds)]))


def parted(one, other):
    """The least key at which two Doings tell otherwise, None if there is none."""
    return _first_key([row[:3] for row, beside in zip(one.table, other.table) if row[3] != beside[3]])


def beyond(one, other):
    """The least key at which one tells what other does not, None if there is none."""
    rows = [row for row, beside in zip(one.table, other.table) if row[3] != beside[3]]
    return _first_key([row[:3] for row in rows if row[3] is not None])


def _is_within(one, other):
    """Whether other tells the same wherever one tells something."""
    return one.world == other.world and one.kinds == other.kinds and beyond(one, other) is None


def _first_key(found):
    """The first of some keys, None if there is none."""
    return found[0] if found else None


def _behind(told, other, values):
    """What is told if other does what it does behind what was told, with its own values."""
    if told is None or told[0][0] == "faults":
        return told
    return other[told[1], told[2], values]


def _told_plainly(setup, key):
    told, stand = done_plainly(setup, key[:2], ("call", "work", key[2]))
    return told, stand[0], stand[1]


def _is_table(world, kinds, value):
    """Whether value tells something at each key, in their sequence."""
    keys = all_keys(world, kinds)
    if not isinstance(value, tuple) or len(value) != len(keys):
        return False
    return all([_is_row(world, key, row) for key, row in zip(keys, value)])


def _is_row(world, key, value):
    if not isinstance(value, tuple) or len(value) != 4 or not are_alike(key, value[:3]):
        return False
    return value[3] is None or _is_told(world, value[3])


def _is_told(world, value):
    """Whether value is what can be told at a key, beside None."""
    return isinstance(value, tuple) and len(value) == 3 and _is_end(world, value[0]) and is_stand(world, value[1:])


def _is_end(world, value):
    if not isinstance(value, tuple) or len(value) != 2:
        return False
    if are_alike("gives", value[0]):
        return is_whole(value[1], 0, world.size)
    if not are_alike("faults", value[0]) or not isinstance(value[1], tuple):
        return False
    return 1 <= len(value[1]) <= MOST_WORDS and all([is_name(word) for word in value[1]])
