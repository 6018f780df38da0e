"""Halls: setups in use, with undo and redo, trials and a journal."""

from tapedonce.errors import (
    BadLine, BadPlan, BadRoom, BadThing, BadValues, Fault, NoName, NothingToRedo, NothingToUndo, NoWork,
)
from tapedonce.forms import is_whole
from tapedonce.judging import is_wrong
from tapedonce.keepers import done_by_keepers, newest, without_tapes
from tapedonce.keeping import first_state
from tapedonce.lines import line_of_deed, line_of_plan, line_of_room, read_line
from tapedonce.plain import done_plainly
from tapedonce.plans import Plan, check_fit
from tapedonce.stands import are_values, is_thing
from tapedonce.tapes import Tape

GREATEST_ROOM = 2


class Stage:
    """How a hall stands behind a deed: it is never changed, the next deed brings another one."""

    def __init__(self, line, astray, state, plan, room):
        self.line = line
        self.goes_astray = astray
        self.stands = state
        self.by_plan = plan
        self.in_room = room


class Past:
    """The stages of a hall, the first one without a deed, and those that were taken back; never changed."""

    def __init__(self, stages, taken):
        self.stages = stages
        self.taken = taken


class Hall:
    """A setup in use, at first in its first state."""

    def __init__(self, setup, plan):
        _check_plan(setup, plan)
        self._setup = setup
        self.past = Past((Stage(None, False, first_state(setup), plan, setup.places),), ())

    @property
    def setup(self):
        return self._setup

    @property
    def state(self):
        return self._stage_now().stands

    @property
    def plan(self):
        return self._stage_now().by_plan

    @plan.setter
    def plan(self, value):
        _check_plan(self._setup, value)
        state = without_tapes(self._setup, self.state[0])
        self._add(Stage(line_of_plan(value), False, state, value, self.space))

    @property
    def space(self):
        return self._stage_now().in_room

    @space.setter
    def space(self, value):
        if not is_whole(value, 0, GREATEST_ROOM + 1):
            raise BadRoom(value)
        stand, tapes = self.state
        state = stand, tuple([newest(texts, value) for texts in tapes])
        self._add(Stage(line_of_room(value), False, state, self.plan, value))

    @property
    def many(self):
        return len(self._done())

    @property
    def astray(self):
        return tuple([at for at, stage in enumerate(self._done()) if stage.goes_astray])

    @property
    def journal(self):
        return tuple([stage.line for stage in self._done()])

    def __eq__(self, other):
        if not isinstance(other, Hall):
            return False
        if self.state != other.state or self.plan != other.plan or self.space != other.space:
            return False
        # Setups have no == of their own: only the same one is equal.
        return self._setup == other.setup

    def call(self, name, *values):
        """The worth that the keeper of a work tells; a Fault that it tells is raised."""
        number = self._setup.work_number(name)
        if number is None:
            raise NoWork(name)
        if not are_values(self._setup.world, self._setup.works[number][2], values):
            raise BadValues(values)
        told = self._do(("call", name, values))
        if told[0] == "faults":
            raise Fault(told[1])
        return told[1]

    def change(self, name, thing):
        """Changes what is loose, as others do."""
        if name not in self._setup.world.loose:
            raise NoName(name)
        if not is_thing(self._setup.world, name, thing):
            raise BadThing(thing)
        self._do(("change", name, thing))

    def tapes_of(self, name):
        """The Tapes of a work's keeper, the eldest first."""
        number = self._setup.work_number(name)
        if number is None:
            raise NoWork(name)
        world, kinds = self._setup.world, self._setup.works[number][2]
        return tuple([Tape(world, kinds, steps, end) for steps, end in self.state[1][number]])

    def undo(self):
        """Takes the last deed back that was not taken back."""
        stages = self.past.stages
        if len(stages) == 1:
            raise NothingToUndo()
        self.past = Past(stages[:-1], stages[-1:] + self.past.taken)

    def redo(self):
        """Does the deed again that was taken back last."""
        taken = self.past.taken
        if not taken:
            raise NothingToRedo()
        self.past = Past(self.past.stages + taken[:1], taken[1:])

    def trial(self):
        """What the hall is used in that may be taken back as a whole."""
        return Trial(self)

    def tried(self, look, *, keep=False):
        """What look tells of the hall; what it does stays only if keep is True."""
        with self.trial() as trial:
            told = look(self)
            if keep is True:
                trial.keep()
        return told

    def copy(self):
        """An independent hall with the same content."""
        twin = Hall(self._setup, self.plan)
        twin.past = self.past
        return twin

    @classmethod
    def read(cls, setup, plan, lines):
        """A Hall to which the deeds of a journal's lines were told."""
        hall = cls(setup, plan)
        if not isinstance(lines, tuple) or not all([isinstance(line, str) for line in lines]):
            raise BadLine(0)
        for at, line in enumerate(lines):
            if not _takes_line(hall, line):
                raise BadLine(at + 1)
        return hall

    def _stage_now(self):
        return self.past.stages[-1]

    def _done(self):
        """The stages of the deeds that were done and not taken back."""
        return self.past.stages[1:]

    def _add(self, stage):
        self.past = Past(self.past.stages + (stage,), ())

    def _do(self, deed):
        """Does a call or a change, and tells what it tells."""
        stand = self.state[0]
        after = done_by_keepers(self._setup, self.plan, self.space, self.state, deed)
        astray = is_wrong(done_plainly(self._setup, stand, deed), after)
        self._add(Stage(line_of_deed(deed), astray, after[1], self.plan, self.space))
        return after[0]


class Trial:
    """A block in which a hall is used: behind it the hall is as ahead of it, if nothing is kept."""

    def __init__(self, hall):
        self._hall = hall

    @property
    def hall(self):
        return self._hall

    def __enter__(self):
        self._ahead = self._hall.past
        self._taken_back = self._hall
        return self

    def keep(self):
        """Lets what is done in the block stay behind it."""
        # What goes back at the end of the block is then this trial alone, and nobody looks at it.
        self._taken_back = self

    def __exit__(self, kind, value, trace):
        self._taken_back.past = self._ahead
        if kind is not None:
            self._hall.past = self._ahead


def set_plan(hall, plan):
    """Gives a hall another plan, a deed."""
    hall.plan = plan


def set_space(hall, space):
    """Gives a hall another room, a deed."""
    hall.space = space


def do_line(hall, told):
    """Does the deed that a line told, as read_line has it; what a call gives, None of all others."""
    if told[0] == "call":
        _, name, values = told
        return hall.call(name, *values)
    if told[0] == "change":
        _change_by_line(hall, told[1], told[2])
    elif told[0] == "plan":
        _, guards, known, held, own = told
        set_plan(hall, Plan(guards, known=known, held=held, own=own))
    else:
        set_space(hall, told[1])
    return None


def _change_by_line(hall, name, worths):
    # A line does not tell a worth from one item: the name does.
    is_worth = len(worths) == 1 and hall.setup.world.cell_number(name) is not None
    hall.change(name, worths[0] if is_worth else worths)


def _takes_line(hall, line):
    """Does the deed of a line, and tells whether it was one and was not refused."""
    told = read_line(line)
    if told is None:
        return False
    try:
        do_line(hall, told)
    except Fault:
        return True
    except (NoWork, BadValues, NoName, BadThing, BadPlan, BadRoom):
        return False
    return True


def _check_plan(setup, value):
    """Lets nothing pass that is no plan for a setup."""
    if not isinstance(value, Plan):
        raise BadPlan(value)
    check_fit(setup, value)
