"""Small setups made by chance, the same ones for the same seed, and a search of the tests' own through their states."""

import itertools

from tapedonce.plans import Plan
from tapedonce.worlds import Setup, World
from tests.reckoning import reckoned_deed, reckoned_plainly
from tests.scripts import GUARDS, Maker, work_of

WORLDS = [
    World(2, 1, (("c", 1),), (), ("c",)), World(3, 1, (), (("p", (1,)),)), World(2, 1, (("c", 0), ("d", 1)), ()),
    World(2, 1, (("c", 0),), (("p", ()),), ("c", "p")), World(3, 2, (("c", 2),), ()),
]


class Reckoned:
    """A setup and a plan, by the tests' reckoning of keepers and plain runs; nothing is asked of the program."""

    def __init__(self, world, scripts, kinds, setup, plan):
        self.world, self.scripts, self.kinds, self.setup, self.plan = world, scripts, kinds, setup, plan
        self.first = (world.first, ((),) * len(kinds))
        self.known = {}

    def by(self, plan, room=None):
        """The same works by another plan, perhaps in another room."""
        setup = self.setup if room is None else Setup(self.world, self.setup.works, room)
        return Reckoned(self.world, self.scripts, self.kinds, setup, plan)

    def deed(self, state, deed):
        """(told, state, whether it tapes) of a deed."""
        if (state, deed) not in self.known:
            arguments = (self.world, self.scripts, self.kinds, self.setup.places, self.plan, state, deed)
            self.known[state, deed] = reckoned_deed(*arguments)
        return self.known[state, deed]

    def after(self, state, deed):
        """(told, state) of a deed."""
        return self.deed(state, deed)[:2]

    def is_wrong(self, state, deed):
        if deed[0] == "change":
            return False
        told, after = self.after(state, deed)
        return (told, after[0]) != reckoned_plainly(self.world, self.scripts, self.kinds, state[0], deed)

    def found(self, most):
        """("right", states), ("wrong", how many deeds), or None if there are too many states."""
        level = met = [self.first]
        for many in itertools.count():
            if len(met) > most:
                return None
            if any(self.is_wrong(state, deed) for state in level for deed in self.setup.deeds):
                return "wrong", many + 1
            level = self.behind(level, met)
            if not level:
                return "right", tuple(sorted(met))
            met = met + level

    def behind(self, level, met):
        """The states to which deeds lead from those of a level, but for those that are met."""
        found = []
        for state, deed in itertools.product(level, self.setup.deeds):
            after = self.deed(state, deed)[1]
            if after not in met and after not in found:
                found.append(after)
        return found

    def states(self, most):
        """All states, wrong deeds leading on like others; None if there are too many."""
        level = met = [self.first]
        while level:
            if len(met) > most:
                return None
            level = self.behind(level, met)
            met = met + level
        return sorted(met)

    def walk(self, state, story):
        """The state behind a story, and for each deed whether it tapes."""
        told = []
        for deed in story:
            assert deed in self.setup.deeds
            _, state, tapes = self.deed(state, deed)
            told.append(tapes)
        return state, told

    def is_wrong_at_last(self, story):
        """Whether a story goes wrong at its last deed."""
        return self.is_wrong(self.walk(self.first, story[:-1])[0], story[-1])


def drawn_setups(seeds, worlds=WORLDS):
    """A setup, a plan, and both as reckoned, for each seed."""
    for seed in seeds:
        world = worlds[seed % len(worlds)]
        rows = "r" if world.rows else "n"
        kinds = [{"w": "n"}, {"v": rows}, {"v": "", "w": "n"}][seed % 3]
        maker = Maker(seed, world.size, [name for name, _ in world.cells], [name for name, _ in world.rows], kinds)
        scripts = {name: maker.script(name, 3) for name in kinds}
        works = tuple((name, work_of(world.size, scripts[name]), kinds[name]) for name in kinds)
        guards = GUARDS if seed % 4 else ()
        plan = Plan(guards, known=seed % 7 < 2, held=seed % 11 < 7, own=tuple(sorted(kinds))[:seed % 3])
        setup = Setup(world, works, 1 + seed % 2)
        yield setup, plan, Reckoned(world, scripts, kinds, setup, plan)
