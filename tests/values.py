"""Values of every kind that the document calls any value, to be refused or kept."""

from tapedonce.errors import BadSize, Empty, Fault
from tapedonce.numbers import Number
from tapedonce.rows import Row


def nested(make):
    """A value of thirty layers, each of which make puts around the one within."""
    value = 0
    for _ in range(30):
        value = make(value)
    return value


def any_values():
    """New values of every kind."""
    return [
        0, 1, 2, 3, 4, 5, -1, -2, 10 ** 18 - 1, 1 - 10 ** 18,
        True, False, None,
        "", "0", "2", "a", "abcdefgh", "A b", "x" * 20000,
        b"", b"\x00", b"\x02\x01", b"abc", b"x" * 20000,
        (), (0,), (1, 0), (2,), (2, 3, 4), (None,), (True,), ("a", (1, "b")), ((),),
        [], [0], [1, 0], [None, [b"a"]],
        {}, {2: 3}, {"a": [1]}, {0: None, 1: ()},
        nested(lambda value: (value,)), nested(lambda value: [value]), nested(lambda value: {0: value}),
        Number(2, 0), Number(3, 2), Number(4, 3), (Number(2, 1),),
        Row(2, 1, ()), Row(4, 2, (3, 2)), [Row(3, 1, (0,))],
        BadSize(5), Fault(("zero",)), Empty(),
    ]


def is_plain(value):
    """Whether value is an integer as the document has it."""
    return isinstance(value, int) and not isinstance(value, bool)
