"""Numbers that go round at their size."""

from tapedonce.errors import BadSize, BadWorth, Fault
from tapedonce.forms import is_size, is_whole


class Number:
    """A number of a size, with a worth from 0 below it."""

    def __init__(self, size, worth):
        if not is_size(size):
            raise BadSize(size)
        if not is_whole(worth, 0, size):
            raise BadWorth(worth)
        self._size = size
        self._worth = worth

    @property
    def size(self):
        return self._size

    @property
    def worth(self):
        return self._worth

    # What is no side of a plain sign is left to Python, which then asks the other side.

    def __add__(self, other):
        if not _is_side(other):
            return NotImplemented
        return _gone_round(self._size, self._worth + worth_of(other))

    def __radd__(self, other):
        if not _is_side(other):
            return NotImplemented
        return _gone_round(self._size, worth_of(other) + self._worth)

    def __sub__(self, other):
        if not _is_side(other):
            return NotImplemented
        return _gone_round(self._size, self._worth - worth_of(other))

    def __rsub__(self, other):
        if not _is_side(other):
            return NotImplemented
        return _gone_round(self._size, worth_of(other) - self._worth)

    def __mul__(self, other):
        if not _is_side(other):
            return NotImplemented
        return _gone_round(self._size, self._worth * worth_of(other))

    def __rmul__(self, other):
        if not _is_side(other):
            return NotImplemented
        return _gone_round(self._size, worth_of(other) * self._worth)

    def __floordiv__(self, other):
        if not _is_side(other):
            return NotImplemented
        return _quotient(self._size, self._worth, worth_of(other))

    def __rfloordiv__(self, other):
        if not _is_side(other):
            return NotImplemented
        return _quotient(self._size, worth_of(other), self._worth)

    def __neg__(self):
        return _gone_round(self._size, -self._worth)

    def __eq__(self, other):
        if not _is_side(other):
            return NotImplemented
        return self._worth == worth_of(other)

    def __ne__(self, other):
        if not _is_side(other):
            return NotImplemented
        return self._worth != worth_of(other)

    def __lt__(self, other):
        if not _is_side(other):
            return NotImplemented
        return self._worth < worth_of(other)

    def __le__(self, other):
        if not _is_side(other):
            return NotImplemented
        return self._worth <= worth_of(other)

    def __gt__(self, other):
        if not _is_side(other):
            return NotImplemented
        return self._worth > worth_of(other)

    def __ge__(self, other):
        if not _is_side(other):
            return NotImplemented
        return self._worth >= worth_of(other)


def worth_of(number):
    """The worth of a Number, or of an integer, which counts as one."""
    if isinstance(number, Number):
        return number.worth
    return number


def worth_made(sign, size, one, other):
    """The worth that a sign makes of two worths; a quotient has no 0 behind it."""
    if sign == "+":
        return int(one + other) % size
    if sign == "-":
        return int(one - other) % size
    if sign == "*":
        return int(one * other) % size
    return one // other


def _is_side(value):
    """Whether value may stand on the other side of a Number's sign."""
    if isinstance(value, bool):
        return False
    return isinstance(value, (int, Number))


def _gone_round(size, plain):
    """The Number of a plain result."""
    return Number(size, int(plain) % size)


def _quotient(size, worth, by):
    """The Number of a quotient, rounded down."""
    if by == 0:
        raise Fault(("zero",))
    return Number(size, worth // by)
