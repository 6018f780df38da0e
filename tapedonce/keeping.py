"""States of keepers, and what deeds and tapes do at them."""

from tapedonce.errors import BadDeed, BadState, BadTape, BadValues
from tapedonce.keepers import Keepers, done_by_keepers, without_tapes
from tapedonce.plans import check_fit
from tapedonce.stands import are_values, is_deed, is_stand
from tapedonce.tapes import Tape
from tapedonce.texts import call_of, is_list, is_text


def first_state(setup):
    """The state in which nothing was done yet."""
    return without_tapes(setup, setup.world.first)


def kept(setup, plan, state, deed):
    """(told, state) of a deed, a call being one by the keeper of its work."""
    check_fit(setup, plan)
    if not is_state(setup, state):
        raise BadState(state)
    if not is_deed(setup, deed):
        raise BadDeed(deed)
    return done_by_keepers(setup, plan, setup.places, state, deed)


def run_tape(setup, plan, state, tape, values):
    """(told, state) of a run of a tape, told being None if it is off."""
    check_fit(setup, plan)
    if not is_state(setup, state):
        raise BadState(state)
    if not isinstance(tape, Tape) or tape.world != setup.world or not _are_calls_right(setup, tape.kinds, tape.steps):
        raise BadTape(tape)
    if not are_values(setup.world, tape.kinds, values):
        raise BadValues(values)
    keepers = Keepers(setup, plan, setup.places, state)
    told = keepers.told_by_tape((tape.steps, tape.end), values, 1)
    return told, keepers.left()


def is_state(setup, value):
    """Whether value is a state of the setup by its form."""
    if not isinstance(value, tuple) or len(value) != 2 or not is_stand(setup.world, value[0]):
        return False
    if not isinstance(value[1], tuple) or len(value[1]) != len(setup.works):
        return False
    return all([_are_texts(setup, work[2], texts) for work, texts in zip(setup.works, value[1])])


def _are_texts(setup, kinds, value):
    """Whether value is what the keeper of a work of these kinds may have."""
    if not isinstance(value, tuple) or len(value) > setup.places:
        return False
    if not all([_is_text(setup, kinds, text) for text in value]):
        return False
    return all([text not in value[:at] for at, text in enumerate(value)])


def _is_text(setup, kinds, value):
    if not isinstance(value, tuple) or len(value) != 2 or not is_text(setup.world, kinds, value[0], value[1]):
        return False
    return _are_calls_right(setup, kinds, value[0])


def _are_calls_right(setup, kinds, steps):
    """Whether all calls of a tape are of works that there are, by their kinds."""
    calls = [call_of(step) for step in steps]
    return all([call is None or _is_call_right(setup, kinds, call) for call in calls])


def _is_call_right(setup, kinds, call):
    number = setup.work_number(call[0])
    if number is None:
        return False
    found = ["r" if is_list(kinds, value) else "n" for value in call[1]]
    return "".join(found) == setup.works[number][2]
