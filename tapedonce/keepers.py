"""Keepers of works: they run the tapes that they have, and have works taped anew."""

from tapedonce.runs import taping_run
from tapedonce.running import TapeRun
from tapedonce.scenes import Scene
from tapedonce.stands import with_thing
from tapedonce.tallies import DEEPEST_CALL


class Keepers:
    """The keepers of all works of a setup, each with so much room, upon one world: they tell calls by a plan."""

    def __init__(self, setup, plan, room, state):
        self.of_setup = setup
        self.by_plan = plan
        self.scene = Scene(setup.world, state[0])
        # Stays so behind runs that are off, too: what was taped there is taken back, but was taped.
        self.has_taped = False
        self._room = room
        self._texts = state[1]

    def left(self):
        """The state as it is now."""
        return self.scene.stand, self._texts

    def told_by_keeper(self, name, values, depth):
        """What a call by the keeper of a work tells that stands so deep."""
        if depth > DEEPEST_CALL:
            return "faults", ("deep",)
        number = self.of_setup.work_number(name)
        texts = self._texts[number]
        for text in texts:
            told = self.told_by_tape(text, values, depth)
            if told is not None:
                return told
        self.has_taped = True
        told, text = taping_run(self, number, values, depth)
        if text is not None:
            self._keep(number, text)
        return told

    def told_by_tape(self, text, values, depth):
        """What a run of a tape tells, None if it is off."""
        ahead = self.left()
        told = TapeRun(self.scene, self, values, depth).told(text[0], text[1])
        if told is None and self.by_plan.held:
            # Taking back what was done does as well as running on a twin: nobody looks meanwhile.
            self.scene.stand, self._texts = ahead
        return told

    def _keep(self, number, text):
        """Puts a tape behind the others of a keeper, if it has none alike; the eldest goes if there is no room."""
        texts = self._texts[number]
        if text in texts:
            return
        texts = newest(texts + (text,), self._room)
        self._texts = self._texts[:number] + (texts,) + self._texts[number + 1:]


def newest(texts, room):
    """The tapes of a keeper that are left if the eldest go until there is room."""
    return texts[max(0, len(texts) - room):]


def without_tapes(setup, stand):
    """The state with this stand in which no keeper has a tape."""
    return stand, tuple([() for _ in setup.works])


def done_by_keepers(setup, plan, room, state, deed):
    """What a deed tells and leaves, by keepers with so much room; all is known to be as it should."""
    return done_and_taped(setup, plan, room, state, deed)[:2]


def done_and_taped(setup, plan, room, state, deed):
    """Likewise, and whether the deed tapes."""
    if deed[0] == "change":
        return None, (with_thing(setup.world, state[0], deed[1], deed[2]), state[1]), False
    keepers = Keepers(setup, plan, room, state)
    told = keepers.told_by_keeper(deed[1], deed[2], 1)
    return told, keepers.left(), keepers.has_taped
