"""Tells of any value whether it has a plain form that arguments must have."""


def is_whole(value, low, below):
    """Whether value is an integer from low on that is less than below."""
    # A bool is an int to Python, but no integer here.
    return isinstance(value, int) and not isinstance(value, bool) and low <= value < below


def is_size(value):
    """Whether value is a size of numbers."""
    return is_whole(value, 2, 5)


def is_most(value):
    """Whether value tells how many items a row may have at most."""
    return is_whole(value, 1, 3)


def are_items(value, size, most):
    """Whether value is a tuple of worths that a row of this size and most may have."""
    if not isinstance(value, tuple) or len(value) > most:
        return False
    return all([is_whole(worth, 0, size) for worth in value])
