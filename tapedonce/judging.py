"""Whether a plan is right: whether keepers do what plain runs do, behind every row of deeds."""

from tapedonce.errors import BadStory, TooMany
from tapedonce.forms import are_alike
from tapedonce.keepers import done_by_keepers
from tapedonce.keeping import first_state
from tapedonce.orders import ascending
from tapedonce.plain import done_plainly
from tapedonce.plans import check_fit
from tapedonce.stands import is_deed

MOST_STATES = 300


class PlainRuns:
    """What plain runs of a setup tell and leave: each deed is done once at each stand, whatever the plans are."""

    def __init__(self, setup):
        self._setup = setup
        self._by_stand = {}

    def plain(self, stand, deed):
        """What plainly tells of a deed at a stand."""
        at_stand = self._by_stand.setdefault(stand, {})
        if deed not in at_stand:
            at_stand[deed] = done_plainly(self._setup, stand, deed)
        return at_stand[deed]


class Search:
    """Goes through the states to which deeds lead, level by level."""

    def __init__(self, setup, plan, runs):
        first = first_state(setup)
        self._setup = setup
        self._plan = plan
        self._runs = runs
        self._level = [(first, ())]
        # By their signs, since states are too deep to be keys themselves.
        self._met = {repr(first): first}

    def result(self):
        """What right tells."""
        while self._level:
            if len(self._met) > MOST_STATES:
                raise TooMany(MOST_STATES)
            story = self._look_at_level()
            if story is not None:
                return "wrong", story
        return "right", tuple(ascending(list(self._met.values())))

    def _look_at_level(self):
        """A story that goes wrong at the states of this level, None if there is none; goes on to the next one."""
        behind = []
        for state, story in self._level:
            for deed in self._setup.deeds:
                after = done_by_keepers(self._setup, self._plan, self._setup.places, state, deed)
                if is_wrong(self._runs.plain(state[0], deed), after):
                    return (*story, deed)
                sign = repr(after[1])
                if sign not in self._met:
                    self._met[sign] = after[1]
                    behind.append((after[1], (*story, deed)))
        self._level = behind
        return None


def is_wrong(plain, after):
    """Whether a deed is wrong that tells and leaves so much plainly, and by keepers."""
    # A change leaves the same always, so that only calls are wrong.
    return plain != (after[0], after[1][0])


def right(setup, plan):
    """("right", states) if every call is right behind every row of deeds, otherwise ("wrong", story)."""
    check_fit(setup, plan)
    return judged(setup, plan, PlainRuns(setup))


def judged(setup, plan, runs):
    """What right tells of a plan that fits, by plain runs that may be those of other plans, too."""
    return Search(setup, plan, runs).result()


def shows_right(setup, plan, value):
    """Whether any value is a result of right."""
    found = right(setup, plan)
    if found[0] == "right":
        return are_alike(found, value)
    if not isinstance(value, tuple) or len(value) != 2 or not are_alike("wrong", value[0]):
        return False
    return shows_wrong(setup, plan, len(found[1]), value[1])


def shows_wrong(setup, plan, many, value):
    """Whether any value is a story of so many deeds, the fewest that go wrong."""
    if not are_deeds(setup, value) or len(value) != many:
        return False
    return story_told(setup, plan, value)[-1][2]


def story_told(setup, plan, story):
    """For each deed of a story what keepers tell, what the plain run tells, and whether it is wrong."""
    check_fit(setup, plan)
    if not are_deeds(setup, story):
        raise BadStory(story)
    state, found = first_state(setup), []
    for deed in story:
        after = done_by_keepers(setup, plan, setup.places, state, deed)
        plain = done_plainly(setup, state[0], deed)
        found.append((after[0], plain[0], is_wrong(plain, after)))
        state = after[1]
    return tuple(found)


def are_deeds(setup, value):
    """Whether value is a tuple of deeds."""
    return isinstance(value, tuple) and all([is_deed(setup, deed) for deed in value])
