"""A hall of the tests' own: a list of deeds, by the words of the document and the tests' reckoning."""

from tapedonce.plans import Plan
from tapedonce.worlds import World
from tests.drawn import drawn_setups
from tests.reckoning import reckoned_deed, reckoned_plainly

HALL_WORLDS = [
    World(2, 1, (("c", 1),), (), ("c",)), World(3, 2, (("c", 0),), (("p", (1,)),), ("c", "p")), World(3, 1, (), (("p", ()),), ("p",)),
    World(4, 1, (("c", 0), ("d", 3)), (), ("d",)), World(2, 2, (("c", 0),), (("p", (1,)), ("q", ())), ("q",)),
]


def listed(names):
    return ",".join(str(name) for name in names) or "-"


def thing_words(thing):
    return listed(thing) if isinstance(thing, tuple) else str(thing)


def plan_words(plan):
    return f"plan {listed(plan.guards)} {'yes' if plan.known else 'no'} {'yes' if plan.held else 'no'} {listed(plan.own)}"


def deed_words(deed):
    if deed[0] == "change":
        return f"change {deed[1]} {thing_words(deed[2])}"
    return " ".join(str(word) for word in (deed[0], deed[1], *deed[2]))


class ListHall:

    def __init__(self, reckoned):
        self.reckoned = reckoned
        self.done = [("", False, reckoned.first, reckoned.plan, reckoned.setup.places)]
        self.undone = []

    def snapshot(self):
        return list(self.done), list(self.undone)

    def lay(self, snapshot):
        self.done, self.undone = list(snapshot[0]), list(snapshot[1])

    def twin(self):
        other = ListHall(self.reckoned)
        other.lay(self.snapshot())
        return other

    @property
    def state(self):
        return self.done[-1][2]

    @property
    def plan(self):
        return self.done[-1][3]

    @property
    def space(self):
        return self.done[-1][4]

    def journal(self):
        return tuple(deed[0] for deed in self.done[1:])

    def astray(self):
        return tuple(at for at, deed in enumerate(self.done[1:]) if deed[1])

    def add(self, *deed):
        self.done.append(deed)
        self.undone = []

    def do(self, deed):
        reckoned = self.reckoned
        arguments = (reckoned.world, reckoned.scripts, reckoned.kinds)
        told, state, _ = reckoned_deed(*arguments, self.space, self.plan, self.state, deed)
        wrong = deed[0] == "call" and reckoned_plainly(*arguments, self.state[0], deed) != (told, state[0])
        self.add(deed_words(deed), wrong, state, self.plan, self.space)
        return told

    def take_plan(self, plan):
        self.add(plan_words(plan), False, (self.state[0], ((),) * len(self.state[1])), plan, self.space)

    def take_space(self, space):
        tapes = tuple(texts[len(texts) - space:] if len(texts) > space else texts for texts in self.state[1])
        self.add(f"room {space}", False, (self.state[0], tapes), self.plan, space)

    def undo(self):
        self.undone.append(self.done.pop())

    def redo(self):
        self.done.append(self.undone.pop())


def drawn_halls(seeds):
    """A setup, a plan and a list for each seed."""
    for setup, plan, reckoned in drawn_setups(seeds, HALL_WORLDS):
        yield setup, plan, ListHall(reckoned)


def drawn_plan(chance, setup):
    guards = tuple(name for name in ("e", "g", "h") if chance.randrange(2))
    own = tuple(work[0] for work in setup.works if chance.randrange(3) == 0)
    return Plan(guards, known=chance.randrange(3) == 0, held=chance.randrange(3) > 0, own=own)
