"""All states to which deeds lead, where each deed leads from each of them, and whether it tapes there."""

from tapedonce.errors import TooMany
from tapedonce.judging import MOST_STATES
from tapedonce.keepers import done_and_taped
from tapedonce.keeping import first_state


class Ways:
    """The states to which deeds lead from the first one on, by their numbers; wrong deeds lead on like others."""

    def __init__(self, setup, plan):
        first = first_state(setup)
        self.of_setup = setup
        self.met = [first]
        # For each state and deed the number of the state that the deed leads to, and whether it tapes.
        self.leads = []
        self._plan = plan
        # By their signs, since states are too deep to be keys themselves.
        self._numbers = {repr(first): 0}
        self._deed_numbers = {deed: at for at, deed in enumerate(setup.deeds)}
        while len(self.leads) < len(self.met):
            self._look_at_level()
        self.onward = [self._first_deeds(leads, False) for leads in self.leads]
        self.taping = [self._first_deeds(leads, True) for leads in self.leads]

    def _look_at_level(self):
        """Looks where deeds lead from the states that were not looked at yet."""
        if len(self.met) > MOST_STATES:
            raise TooMany(MOST_STATES)
        level = self.met[len(self.leads):]
        for state in level:
            self.leads.append([self._lead(state, deed) for deed in self.of_setup.deeds])

    def _lead(self, state, deed):
        _, after, tapes = done_and_taped(self.of_setup, self._plan, self.of_setup.places, state, deed)
        sign = repr(after)
        if sign not in self._numbers:
            self._numbers[sign] = len(self.met)
            self.met.append(after)
        return self._numbers[sign], tapes

    def _first_deeds(self, leads, taping_alone):
        """For each state to which some deeds of one state lead, the first of them; perhaps of those that tape."""
        found = {}
        for deed, (number, tapes) in zip(self.of_setup.deeds, leads):
            if tapes or not taping_alone:
                found.setdefault(number, deed)
        return found

    def number_of(self, state):
        """The number of a state that was met."""
        return self._numbers[repr(state)]

    def lead_of(self, number, deed):
        """The number of the state that a deed leads to, and whether it tapes."""
        return self.leads[number][self._deed_numbers[deed]]

    def stories_from(self, start):
        """For each state to which deeds lead from one a story of fewest deeds, the shortest stories first."""
        found, level = {start: ()}, [start]
        while level:
            behind = []
            for number in level:
                for target, deed in self.onward[number].items():
                    if target not in found:
                        found[target] = (*found[number], deed)
                        behind.append(target)
            level = behind
        return found
