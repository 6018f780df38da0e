"""The fewest tapes of a work that together do what the work does at each key."""

from tapedonce.doings import check_kinds, doing_of, doing_plainly
from tapedonce.errors import NoTape, TooMany
from tapedonce.forms import are_alike
from tapedonce.keyed import all_keys, check_few, is_key
from tapedonce.orders import ascending
from tapedonce.plans import Plan
from tapedonce.tapes import Lot, Tape
from tapedonce.taping import taped
from tapedonce.worlds import MOST_VALUES, Setup

MOST_COVERING = 5


def least_lot(world, kinds, work, plan):
    """("lot", tapes, reasons) of the fewest tapes that do what a function does, ("none", reasons) without any."""
    check_kinds(world, kinds, MOST_VALUES)
    check_few(world, kinds)
    tapes = _written_tapes(world, kinds, work, plan)
    tables, plain = [doing_of(tape).table for tape in tapes], doing_plainly(world, kinds, work).table
    reasons = []
    for numbers in _arranged(len(tapes)):
        chosen = tuple([tapes[at] for at in numbers])
        key = _key_otherwise([tables[at] for at in numbers], plain)
        if key is None:
            return "lot", chosen, tuple(reasons)
        reasons.append((chosen, key))
    return "none", tuple(reasons)


def shows_least_lot(world, kinds, work, plan, value):
    """Whether any value is a result of least_lot."""
    found = least_lot(world, kinds, work, plan)
    if not isinstance(value, tuple) or len(value) != len(found) or not are_alike(found[0], value[0]):
        return False
    if found[0] == "lot" and found[1] != value[1]:
        return False
    if not isinstance(value[-1], tuple) or len(value[-1]) != len(found[-1]):
        return False
    plain = doing_plainly(world, kinds, work)
    return all([_shows_reason(plain, reason[0], other) for reason, other in zip(found[-1], value[-1])])


def _written_tapes(world, kinds, work, plan):
    """The Tapes that taping runs of a function write at any key, in the sequence of their texts."""
    setup, texts = Setup(world, (("work", work, kinds),), 1), []
    # Nothing else of a plan bears on what such a function writes; an own work that is none would not fit.
    writing = Plan(plan.guards, known=plan.known)
    for key in all_keys(world, kinds):
        tape = taped(setup, writing, key[:2], "work", key[2])[2]
        if tape is None:
            raise NoTape(key)
        if (tape.steps, tape.end) not in texts:
            texts.append((tape.steps, tape.end))
    if len(texts) > MOST_COVERING:
        raise TooMany(MOST_COVERING)
    return [Tape(world, kinds, steps, end) for steps, end in ascending(texts)]


def _arranged(many):
    """All tuples of one or more of so many numbers, none twice, by how many they are, and then ascending."""
    found, level = [], [()]
    for _ in range(many):
        level = [(*ahead, at) for ahead in level for at in range(many) if at not in ahead]
        found = found + level
    return found


def _key_otherwise(tables, plain):
    """The least key at which the first of some tables that is not off there tells otherwise, None without one."""
    for at, row in enumerate(plain):
        told = [table[at][3] for table in tables if table[at][3] is not None]
        if not told or told[0] != row[3]:
            return row[:3]
    return None


def _shows_reason(plain, tapes, value):
    """Whether any value is some tapes, and a key at which their Lot tells otherwise than the plain runs."""
    if not isinstance(value, tuple) or len(value) != 2 or tapes != value[0]:
        return False
    key = value[1]
    if not is_key(plain.world, plain.kinds, key):
        return False
    lot = Lot(*tapes)
    return lot(key[0], key[1], key[2]) != plain[key]
