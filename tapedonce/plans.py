"""Plans: what taping runs write, and how tapes are run."""

from tapedonce.errors import BadPlan
from tapedonce.forms import are_names, is_name

MOST_GUARDS = 6
MOST_OWN = 3


class Plan:
    """Which guards are written, what tapes know, how they are run, and which works have a keeper of their own."""

    def __init__(self, guards=(), *, known=False, held=True, own=()):
        right = are_names(guards, MOST_GUARDS) and are_names(own, MOST_OWN)
        if not right or not isinstance(known, bool) or not isinstance(held, bool):
            raise BadPlan((guards, known, held, own))
        self._guards = guards
        self._known = known
        self._held = held
        self._own = own

    @property
    def guards(self):
        return self._guards

    @property
    def known(self):
        return self._known

    @property
    def held(self):
        return self._held

    @property
    def own(self):
        return self._own

    def __eq__(self, other):
        if not isinstance(other, Plan):
            return False
        if self._guards != other.guards or self._own != other.own:
            return False
        return self._known == other.known and self._held == other.held

    def with_guard(self, name):
        """A plan with one guard more."""
        if not is_name(name) or name in self._guards or len(self._guards) == MOST_GUARDS:
            raise BadPlan(name)
        ahead = [guard for guard in self._guards if guard < name]
        behind = [guard for guard in self._guards if guard > name]
        return self._with_guards((*ahead, name, *behind))

    def without(self, name):
        """A plan with one guard fewer."""
        if name not in self._guards:
            raise BadPlan(name)
        return self._with_guards(tuple([guard for guard in self._guards if guard != name]))

    def _with_guards(self, guards):
        return Plan(guards, known=self._known, held=self._held, own=self._own)


def check_fit(setup, plan):
    """Lets no plan pass that has own works which the setup does not have."""
    if not all([setup.work_number(name) is not None for name in plan.own]):
        raise BadPlan(plan)
