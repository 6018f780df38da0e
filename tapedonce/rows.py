"""Rows of a few numbers of one size, which works read and change."""

from tapedonce.errors import BadItems, BadMost, BadSize, Fault
from tapedonce.forms import are_items, is_most, is_size
from tapedonce.numbers import Number, worth_of


class Row:
    """A row of Numbers of a size, with one or two items at most."""

    def __init__(self, size, most, items):
        if not is_size(size):
            raise BadSize(size)
        if not is_most(most):
            raise BadMost(most)
        if not are_items(items, size, most):
            raise BadItems(items)
        self._size = size
        self._most = most
        self._items = list(items)

    @property
    def worths(self):
        return tuple(self._items)

    def has(self, i):
        """Whether there is an item at place i."""
        return 0 <= worth_of(i) < len(self._items)

    def __len__(self):
        return len(self._items)

    def __getitem__(self, at):
        if not self.has(at):
            raise Fault(("index",))
        return Number(self._size, self._items[worth_of(at)])

    def __setitem__(self, at, worth):
        self._set_item(at, worth)

    def __iadd__(self, other):
        self._push_item(other)
        return self

    # Beside the signs, since a row of another class may do more ahead of these.

    def _set_item(self, i, x):
        if not self.has(i):
            raise Fault(("index",))
        self._items[worth_of(i)] = worth_of(x)

    def _push_item(self, x):
        if len(self._items) == self._most:
            raise Fault(("full",))
        self._items.append(worth_of(x))

    # Without this, Python would iterate by places until a Fault comes.
    def __iter__(self):
        raise TypeError("a row is not iterated over")
