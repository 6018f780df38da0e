"""Lines of journals: deeds as strings, written and read."""

from tapedonce.forms import is_name

DIGITS = "0123456789"
NOTHING = "-"
TRUTHS = ("no", "yes")


def line_of_deed(deed):
    """The line of a call or a change."""
    if deed[0] == "change":
        return "change " + thing_told(deed[1], deed[2])
    return " ".join(["call", deed[1]] + [str(value) for value in deed[2]])


def line_of_plan(plan):
    """The line of another plan."""
    guards, own = _names_told(plan.guards), _names_told(plan.own)
    return f"plan {guards} {_truth_told(plan.known)} {_truth_told(plan.held)} {own}"


def line_of_room(room):
    """The line of another room."""
    return f"room {room}"


def thing_told(name, thing):
    """A name, and the worth or the items that are under it."""
    told = _joined([str(worth) for worth in thing]) if isinstance(thing, tuple) else str(thing)
    return f"{name} {told}"


def read_line(line):
    """What a line tells, by its words alone: a tuple that begins with the first word; None of what is no line.

    A call has its name and its values, a change its name and its thing as items, a plan its four parts, a room its
    number.
    """
    words = line.split(" ")
    if words[0] == "call" and len(words) > 1:
        return _call_read(words[1], words[2:])
    if words[0] == "change" and len(words) == 3:
        return _change_read(words[1], words[2])
    if words[0] == "plan" and len(words) == 5:
        return _plan_read(words[1:])
    if words[0] == "room" and len(words) == 2 and _is_digit(words[1]):
        return "room", int(words[1])
    return None


def _call_read(name, words):
    if not is_name(name) or not all([_is_digit(word) or is_name(word) for word in words]):
        return None
    return "call", name, tuple([int(word) if _is_digit(word) else word for word in words])


def _change_read(name, word):
    worths = _parts(word)
    if not is_name(name) or not all([_is_digit(part) for part in worths]):
        return None
    return "change", name, tuple([int(part) for part in worths])


def _plan_read(words):
    guards, own = _parts(words[0]), _parts(words[3])
    if not all([is_name(name) for name in guards + own]):
        return None
    if words[1] not in TRUTHS or words[2] not in TRUTHS:
        return None
    return "plan", tuple(guards), words[1] == TRUTHS[1], words[2] == TRUTHS[1], tuple(own)


def _parts(word):
    """What is joined by commas, a list."""
    return [] if word == NOTHING else word.split(",")


def _is_digit(word):
    return len(word) == 1 and word in DIGITS


def _joined(parts):
    return ",".join(parts) if parts else NOTHING


def _names_told(names):
    return _joined(list(names))


def _truth_told(truth):
    return TRUTHS[1] if truth else TRUTHS[0]
