"""Taping: a work is run, and its tape is written."""

from tapedonce.errors import BadStand, BadValues, NoWork
from tapedonce.keepers import Keepers, without_tapes
from tapedonce.plans import check_fit
from tapedonce.runs import taping_run
from tapedonce.stands import are_values, is_stand
from tapedonce.tapes import Tape


def taped(setup, plan, stand, name, values):
    """(told, stand, tape) of a taping run of a work; the tape is None if there is none."""
    check_fit(setup, plan)
    if not is_stand(setup.world, stand):
        raise BadStand(stand)
    number = setup.work_number(name)
    if number is None:
        raise NoWork(name)
    kinds = setup.works[number][2]
    if not are_values(setup.world, kinds, values):
        raise BadValues(values)
    keepers = Keepers(setup, plan, setup.places, without_tapes(setup, stand))
    told, text = taping_run(keepers, number, values, 1)
    if text is None:
        return told, keepers.scene.stand, None
    return told, keepers.scene.stand, Tape(setup.world, kinds, text[0], text[1])
