"""Tells of any value whether it has a plain form that arguments must have."""

MOST_LETTERS = 8
LETTERS = "abcdefghijklmnopqrstuvwxyz"


def is_whole(value, low, below):
    """Whether value is an integer from low on that is less than below."""
    # A bool is an int to Python, but no integer here.
    return isinstance(value, int) and not isinstance(value, bool) and low <= value < below


def is_size(value):
    """Whether value is a size of numbers."""
    return is_whole(value, 2, 5)


def is_most(value):
    """Whether value tells how many items a row may have at most."""
    return is_whole(value, 1, 3)


def are_items(value, size, most):
    """Whether value is a tuple of worths that a row of this size and most may have."""
    if not isinstance(value, tuple) or len(value) > most:
        return False
    return all([is_whole(worth, 0, size) for worth in value])


def is_name(value):
    """Whether value is a name."""
    if not isinstance(value, str) or not 1 <= len(value) <= MOST_LETTERS:
        return False
    return all([letter in LETTERS for letter in value])


def are_rising(names):
    """Whether each of some names stands behind the one ahead of it."""
    return all([one < other for one, other in zip(names, names[1:])])


def are_names(value, most):
    """Whether value is an ascending tuple of at most so many names."""
    if not isinstance(value, tuple) or len(value) > most:
        return False
    return all([is_name(name) for name in value]) and are_rising(value)


def are_pairs(value, most):
    """Whether value is a tuple of at most so many pairs that begin with rising names."""
    if not isinstance(value, tuple) or len(value) > most:
        return False
    if not all([isinstance(pair, tuple) and len(pair) == 2 and is_name(pair[0]) for pair in value]):
        return False
    return are_rising([pair[0] for pair in value])


def are_kinds(value, most, with_rows):
    """Whether value is a string of at most so many kinds, rows among them only if there are some."""
    if not isinstance(value, str) or len(value) > most:
        return False
    kinds = "nr" if with_rows else "n"
    return all([kind in kinds for kind in value])


def are_alike(known, value):
    """Whether any value is a known one, made of tuples, strings, integers and bools, to the last part."""
    if isinstance(known, tuple):
        if not isinstance(value, tuple) or len(known) != len(value):
            return False
        return all([are_alike(one, other) for one, other in zip(known, value)])
    if isinstance(known, bool):
        return isinstance(value, bool) and known == value
    if isinstance(known, str):
        return isinstance(value, str) and known == value
    return is_whole(value, known, known + 1)
