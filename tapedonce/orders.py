"""Puts tuples in sequence."""


def ascending(found):
    """A list of tuples, sorted as Python sorts them."""
    # Numbers have an order of their own, and beside such a class sorted is for plain numbers and strings alone.
    if len(found) < 2:
        return list(found)
    half = len(found) // 2
    return _merged(ascending(found[:half]), ascending(found[half:]))


def _merged(one, other):
    """Two sorted lists as one."""
    merged, at = [], 0
    for thing in one:
        while at < len(other) and other[at] < thing:
            merged.append(other[at])
            at += 1
        merged.append(thing)
    return merged + other[at:]
