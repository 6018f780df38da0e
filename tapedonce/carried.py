"""Carried values: numbers, rows and truths that tell, beside what they are, how a tape comes to them."""

from tapedonce.errors import Fault
from tapedonce.numbers import Number, worth_made, worth_of
from tapedonce.texts import is_shallow

TRUE = ("true",)
FALSE = ("false",)
KNOWN = "known"


class CarriedFault(Fault):
    """A Fault that a tape can bring about; what raises it is told as in a step fails."""

    def __init__(self, words, what):
        self.words = words
        self.what = what


class Carried:
    """A number with the worth that the plain run has there, and the node by which a tape comes to it."""

    def __init__(self, size, worth, node):
        self._size = size
        self._worth = worth
        self._node = node

    @property
    def size(self):
        return self._size

    @property
    def worth(self):
        return self._worth

    @property
    def node(self):
        return self._node

    # What is no side of a sign is left to Python, as Numbers leave it.

    def __add__(self, other):
        if not _is_side(other):
            return NotImplemented
        return _signed("+", self, as_carried(self._size, other))

    def __radd__(self, other):
        if not _is_side(other):
            return NotImplemented
        return _signed("+", as_carried(self._size, other), self)

    def __sub__(self, other):
        if not _is_side(other):
            return NotImplemented
        return _signed("-", self, as_carried(self._size, other))

    def __rsub__(self, other):
        if not _is_side(other):
            return NotImplemented
        return _signed("-", as_carried(self._size, other), self)

    def __mul__(self, other):
        if not _is_side(other):
            return NotImplemented
        return _signed("*", self, as_carried(self._size, other))

    def __rmul__(self, other):
        if not _is_side(other):
            return NotImplemented
        return _signed("*", as_carried(self._size, other), self)

    def __floordiv__(self, other):
        if not _is_side(other):
            return NotImplemented
        return _signed("//", self, as_carried(self._size, other))

    def __rfloordiv__(self, other):
        if not _is_side(other):
            return NotImplemented
        return _signed("//", as_carried(self._size, other), self)

    def __neg__(self):
        worth = worth_made("-", self._size, 0, self._worth)
        if is_known(self._node):
            return Carried(self._size, worth, (KNOWN, worth))
        return Carried(self._size, worth, ("minus", self._node))

    def __eq__(self, other):
        if not _is_side(other):
            return NotImplemented
        return _equal(self, as_carried(self._size, other))

    def __ne__(self, other):
        if not _is_side(other):
            return NotImplemented
        return _contrary(_equal(self, as_carried(self._size, other)))

    def __lt__(self, other):
        if not _is_side(other):
            return NotImplemented
        return _less(self, as_carried(self._size, other))

    def __le__(self, other):
        if not _is_side(other):
            return NotImplemented
        return _contrary(_less(as_carried(self._size, other), self))

    def __gt__(self, other):
        if not _is_side(other):
            return NotImplemented
        return _less(as_carried(self._size, other), self)

    def __ge__(self, other):
        if not _is_side(other):
            return NotImplemented
        return _contrary(_less(self, as_carried(self._size, other)))


class Condition:
    """A truth that the plain run has there, and the node by which a tape comes to it."""

    def __init__(self, truth, node):
        self._truth = truth
        self._node = node

    @property
    def truth(self):
        return self._truth

    @property
    def node(self):
        return self._node

    def __bool__(self):
        return bool(self._truth)

    def __and__(self, other):
        if not _is_truth(other):
            return NotImplemented
        return _both("and", self, as_condition(other))

    def __rand__(self, other):
        if not _is_truth(other):
            return NotImplemented
        return _both("and", as_condition(other), self)

    def __or__(self, other):
        if not _is_truth(other):
            return NotImplemented
        return _both("or", self, as_condition(other))

    def __ror__(self, other):
        if not _is_truth(other):
            return NotImplemented
        return _both("or", as_condition(other), self)

    def __xor__(self, other):
        if not _is_truth(other):
            return NotImplemented
        return _both("unlike", self, as_condition(other))

    def __rxor__(self, other):
        if not _is_truth(other):
            return NotImplemented
        return _both("unlike", as_condition(other), self)


class CarriedRow:
    """A row of the world as a taping run has it: where it comes from, as a list of a tape tells it."""

    def __init__(self, run, name, place):
        self._run = run
        self._row_at = run.scene.of_world.row_number(name)
        self._last = None
        self.name = name
        self.place = place

    def has(self, i):
        """Whether there is an item at place i, a condition."""
        index = as_carried(self._run.of_size, i)
        truth = index.worth < len(self._there())
        return Condition(truth, ("has", self.place, index.node, self._run.time))

    def __len__(self):
        return len(self._there())

    def __getitem__(self, at):
        index, items = as_carried(self._run.of_size, at), self._there()
        node = ("item", self.place, index.node, self._run.time)
        if index.worth >= len(items):
            raise CarriedFault(("index",), node)
        worth = items[index.worth]
        return Carried(index.size, worth, self._known_node(index.node, worth) or node)

    def __setitem__(self, at, worth):
        run = self._run
        run.tally.count_thing()
        index, number = as_carried(run.of_size, at), as_carried(run.of_size, worth)
        items = self._there()
        if index.worth >= len(items):
            raise CarriedFault(("index",), ("place", self.place, index.node, run.time))
        items = items[:index.worth] + (number.worth,) + items[index.worth + 1:]
        run.write_row(self.name, items, ("set", self.place, index.node, number.node))
        self._last = (index.node, number, run.own_calls)

    def __iadd__(self, other):
        run = self._run
        run.tally.count_thing()
        number, items = as_carried(run.of_size, other), self._there()
        if len(items) == run.scene.of_world.most:
            raise CarriedFault(("full",), ("room", self.place, run.time))
        run.write_row(self.name, items + (number.worth,), ("push", self.place, number.node))
        self._last = None
        return self

    # Without this, Python would iterate by places until a Fault comes.
    def __iter__(self):
        raise TypeError("a row is not iterated over")

    def _there(self):
        """The items of the world's row as they are now."""
        return self._run.scene.stand[1][self._row_at]

    def _known_node(self, index_node, worth):
        """The node that was set last by the same index, None if a tape does not know the item by it."""
        if self._last is None or not self._run.knows:
            return None
        last_node, number, own_calls = self._last
        if own_calls != self._run.own_calls or number.worth != worth:
            return None
        # What stands deeper is compared with nothing: it may be too large for that.
        if not is_shallow(index_node) or last_node != index_node:
            return None
        return number.node


def as_carried(size, number):
    """A carried number as it is; a Number or an integer as a known one."""
    if isinstance(number, Carried):
        return number
    worth = worth_of(number)
    return Carried(size, worth, (KNOWN, worth))


def as_condition(truth):
    """A condition as it is, and a bool as a settled one."""
    if isinstance(truth, Condition):
        return truth
    return Condition(truth, _settled(truth))


def is_known(node):
    """Whether a node is a known number."""
    return node[0] == KNOWN


def is_settled(node):
    """Whether a condition's node tells the same always."""
    return node in (TRUE, FALSE)


def same_row(one, other):
    """Whether two carried rows are one row, a condition."""
    truth = one.name == other.name
    if one.place == other.place:
        return Condition(truth, TRUE)
    return Condition(truth, ("same", one.place, other.place))


def _is_side(value):
    """Whether value may stand on the other side of a carried number's sign."""
    if isinstance(value, bool):
        return False
    return isinstance(value, (int, Number, Carried))


def _is_truth(value):
    return isinstance(value, (bool, Condition))


def _settled(truth):
    return TRUE if truth else FALSE


def _signed(sign, one, other):
    """The carried number that a sign makes of two."""
    node = ("do", sign, one.node, other.node)
    known = is_known(one.node) and is_known(other.node)
    if sign == "//" and other.worth == 0:
        if known:
            raise Fault(("zero",))
        raise CarriedFault(("zero",), node)
    worth = worth_made(sign, one.size, one.worth, other.worth)
    return Carried(one.size, worth, (KNOWN, worth) if known else node)


def _equal(one, other):
    return _compared("equal", one.worth == other.worth, one.node, other.node)


def _less(one, other):
    return _compared("less", one.worth < other.worth, one.node, other.node)


def _compared(word, truth, one, other):
    """The condition of two numbers' nodes; that of two known ones is settled at once."""
    if is_known(one) and is_known(other):
        return Condition(truth, _settled(truth))
    return Condition(truth, (word, one, other))


def _contrary(condition):
    """The condition that holds where another one does not."""
    return _both("unlike", condition, as_condition(True))


def _both(word, one, other):
    """The condition of two conditions; that of two settled ones is settled at once."""
    if word == "and":
        truth = one.truth and other.truth
    elif word == "or":
        truth = one.truth or other.truth
    else:
        truth = one.truth != other.truth
    if is_settled(one.node) and is_settled(other.node):
        return Condition(truth, _settled(truth))
    return Condition(truth, (word, one.node, other.node))
