"""Checks of tapes, their guards and fines: which of them are needless, and the fewest that do as well as all."""

from tapedonce.doings import MOST_LETTERS, check_kinds
from tapedonce.errors import BadChecks, BadTape, TooMany
from tapedonce.forms import are_alike, are_rising, is_whole
from tapedonce.keyed import all_keys, check_few, is_key
from tapedonce.moving import Moving
from tapedonce.tapes import Tape
from tapedonce.texts import has_call

CHECKING = ("guard", "fine")
MOST_CHECKS = 6


def with_checks(tape, numbers):
    """The Tape without all checks but those of some numbers."""
    if not isinstance(tape, Tape):
        raise BadTape(tape)
    if not _are_checks(tape, numbers):
        raise BadChecks(numbers)
    left = [at for at, step in enumerate(tape.steps) if step[0] not in CHECKING or at in numbers]
    moving = Moving(0, 0, {at: number for number, at in enumerate(left)})
    steps = tuple([moving.moved_step(tape.steps[at]) for at in left])
    return Tape(tape.world, tape.kinds, steps, moving.moved_end(tape.end))


def needless(tape):
    """The checks without any one of which, the others staying, the tape does the same."""
    _check_letters(tape)
    check_few(tape.world, tape.kinds)
    wanted = list(_stops(tape).values())
    return tuple([at for at in _checks_of(tape) if [at] not in wanted])


def least_checks(tape):
    """(numbers, reasons): the fewest checks with which the tape does the same, and why none ahead of them do."""
    found = _passing(tape, _checked_stops(tape))
    least = [key for _, key in found].index(None)
    return found[least][0], tuple(found[:least])


def shows_least_checks(tape, value):
    """Whether any value is a result of least_checks."""
    stops = _checked_stops(tape)
    found = _passing(tape, stops)
    least = [key for _, key in found].index(None)
    if not isinstance(value, tuple) or len(value) != 2 or not are_alike(found[least][0], value[0]):
        return False
    if not isinstance(value[1], tuple) or len(value[1]) != least:
        return False
    return all([_shows_reason(tape, stops, reason[0], other) for reason, other in zip(found, value[1])])


def _check_letters(tape):
    """Lets nothing pass that is no Tape without calls, or that has too many kinds."""
    if not isinstance(tape, Tape) or has_call(tape.steps):
        raise BadTape(tape)
    check_kinds(tape.world, tape.kinds, MOST_LETTERS)


def _checked_stops(tape):
    """The stops of what is a Tape with few checks, kinds and keys."""
    _check_letters(tape)
    if len(_checks_of(tape)) > MOST_CHECKS:
        raise TooMany(MOST_CHECKS)
    check_few(tape.world, tape.kinds)
    return _stops(tape)


def _checks_of(tape):
    """The numbers of the checks of a Tape."""
    return [at for at, step in enumerate(tape.steps) if step[0] in CHECKING]


def _are_checks(tape, value):
    if not isinstance(value, tuple) or not all([is_whole(number, 0, len(tape.steps)) for number in value]):
        return False
    return are_rising(value) and all([number in _checks_of(tape) for number in value])


def _stops(tape):
    """For each key at which nothing but checks lets the tape be off: those of them that do, each of them alone."""
    bare, found = with_checks(tape, ()), {}
    # Checks change nothing, so that each of them does among others what it does alone.
    alone = {at: with_checks(tape, (at,)) for at in _checks_of(tape)}
    for key in all_keys(tape.world, tape.kinds):
        if bare(key[0], key[1], key[2]) is not None:
            stopping = [at for at, single in alone.items() if single(key[0], key[1], key[2]) is None]
            if stopping:
                found[key] = stopping
    return found


def _passing(tape, stops):
    """For each tuple of checks, in sequence, the least key at which these alone tell otherwise, None without one."""
    return [(numbers, _passed_key(stops, numbers)) for numbers in _choices(_checks_of(tape))]


def _passed_key(stops, numbers):
    passed = [key for key, stopping in stops.items() if _is_passed(stopping, numbers)]
    return passed[0] if passed else None


def _is_passed(stopping, numbers):
    """Whether some checks alone do not stop the tape where all of them do."""
    return not any([at in stopping for at in numbers])


def _choices(numbers):
    """All tuples out of some numbers, each ascending, by how many they are."""
    found, level = [], [()]
    for _ in range(len(numbers) + 1):
        found = found + level
        level = [(*ahead, at) for ahead in level for at in numbers if not ahead or at > ahead[-1]]
    return found


def _shows_reason(tape, stops, numbers, value):
    """Whether any value is some checks, and a key at which these alone tell otherwise."""
    if not isinstance(value, tuple) or len(value) != 2 or not are_alike(numbers, value[0]):
        return False
    if not is_key(tape.world, tape.kinds, value[1]) or value[1] not in stops:
        return False
    return _is_passed(stops[value[1]], numbers)
