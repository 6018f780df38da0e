"""Tapes joined: the tape that does what one does, and behind it what another one does."""

from tapedonce.errors import BadTape
from tapedonce.moving import Moving
from tapedonce.tapes import Tape
from tapedonce.texts import View


def joined(one, other):
    """The Tape of two Tapes of one world, for one's kinds and then other's."""
    if not isinstance(one, Tape):
        raise BadTape(one)
    if not isinstance(other, Tape) or one.world != other.world:
        raise BadTape(other)
    kinds = one.kinds + other.kinds
    if one.end[0] == "faults":
        return Tape(one.world, kinds, one.steps, one.end)
    ahead = (*one.steps, ("fine", one.end[1]))
    numbers = [len(ahead) + at for at in range(len(other.steps))]
    moving = Moving(len(one.kinds), _writes_of(one), numbers)
    steps = ahead + tuple([moving.moved_step(step) for step in other.steps])
    return Tape(one.world, kinds, steps, moving.moved_end(other.end))


def _writes_of(tape):
    """How many writes a tape has."""
    view = View(tape.world, tape.kinds)
    for step in tape.steps:
        view.pass_step(step)
    return view.writes
