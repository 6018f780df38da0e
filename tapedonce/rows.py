"""Rows of a few numbers of one size, which works read and change."""

from tapedonce.errors import BadItems, BadMost, BadSize, Fault
from tapedonce.forms import are_items, is_most, is_size
from tapedonce.numbers import Number, worth_of


class Row:
    """A row of Numbers of a size, with one or two items at most."""

    def __init__(self, size, most, items):
        if not is_size(size):
            raise BadSize(size)
        if not is_most(most):
            raise BadMost(most)
        if not are_items(items, size, most):
            raise BadItems(items)
        self._size = size
        self._most = most
        self._items = list(items)

    @property
    def worths(self):
        return tuple(self._items)

    def has(self, i):
        """Whether there is an item at place i."""
        return 0 <= worth_of(i) < len(self._items)

    def __len__(self):
        return len(self._items)

    def __getitem__(self, at):
        if not self.has(at):
            raise Fault(("index",))
        return Number(self._size, self._items[worth_of(at)])

    def __setitem__(self, at, worth):
        if not self.has(at):
            raise Fault(("index",))
        self._items[worth_of(at)] = worth_of(worth)

    def __iadd__(self, other):
        if len(self._items) == self._most:
            raise Fault(("full",))
        self._items.append(worth_of(other))
        return self

    # Without this, Python would iterate by places until a Fault comes.
    def __iter__(self):
        raise TypeError("a row is not iterated over")
