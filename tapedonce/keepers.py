"""Keepers of works: they run the tapes that they have, and have works taped anew."""

from tapedonce.runs import taping_run
from tapedonce.running import TapeRun
from tapedonce.scenes import Scene
from tapedonce.stands import with_thing
from tapedonce.tallies import DEEPEST_CALL


class Keepers:
    """The keepers of all works of a setup, upon one world: they tell calls by a plan."""

    def __init__(self, setup, plan, state):
        self.of_setup = setup
        self.by_plan = plan
        self.scene = Scene(setup.world, state[0])
        self._texts = state[1]

    def left(self):
        """The state as it is now."""
        return self.scene.stand, self._texts

    def told_by_keeper(self, name, values, depth):
        """What a call by the keeper of a work tells that stands so deep."""
        if depth > DEEPEST_CALL:
            return "faults", ("deep",)
        number = self.of_setup.work_number(name)
        texts = self._texts[number]
        for text in texts:
            told = self.told_by_tape(text, values, depth)
            if told is not None:
                return told
        told, text = taping_run(self, number, values, depth)
        if text is not None:
            self._keep(number, text)
        return told

    def told_by_tape(self, text, values, depth):
        """What a run of a tape tells, None if it is off."""
        ahead = self.left()
        told = TapeRun(self.scene, self, values, depth).told(text[0], text[1])
        if told is None and self.by_plan.held:
            # Taking back what was done does as well as running on a twin: nobody looks meanwhile.
            self.scene.stand, self._texts = ahead
        return told

    def _keep(self, number, text):
        """Puts a tape behind the others of a keeper, if it has none alike; the eldest goes if there is no room."""
        texts = self._texts[number]
        if text in texts:
            return
        texts = (texts + (text,))[-self.of_setup.places:]
        self._texts = self._texts[:number] + (texts,) + self._texts[number + 1:]


def without_tapes(setup, stand):
    """The state with this stand in which no keeper has a tape."""
    return stand, tuple([() for _ in setup.works])


def done_by_keepers(setup, plan, state, deed):
    """What a deed tells and leaves, by keepers; all is known to be as it should."""
    if deed[0] == "change":
        return None, (with_thing(setup.world, state[0], deed[1], deed[2]), state[1])
    keepers = Keepers(setup, plan, state)
    told = keepers.told_by_keeper(deed[1], deed[2], 1)
    return told, keepers.left()
