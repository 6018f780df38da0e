"""Steps and ends that stand elsewhere than they did: what they name by numbers has other numbers there."""

from tapedonce.texts import PARTS


class Moving:
    """How much greater the numbers of values and times are, and which numbers steps have: for each its new one."""

    def __init__(self, values, writes, numbers):
        self._values = values
        self._writes = writes
        self._numbers = numbers

    def moved_step(self, step):
        """A step as it stands now."""
        return self._moved("step", step)

    def moved_end(self, end):
        """An end as it stands now."""
        return self._moved("end", end)

    def _moved(self, sort, thing):
        return (thing[0],) + tuple([self._part(part, found) for part, found in zip(PARTS[(sort, thing[0])], thing[1:])])

    def _part(self, part, found):
        if part in ("node", "condition", "list"):
            return self._moved(part, found)
        if part == "what":
            return self._moved("what" if ("what", found[0]) in PARTS else "node", found)
        if part == "values":
            return tuple([self._moved("list" if ("list", value[0]) in PARTS else "node", value) for value in found])
        if part in ("number value", "row value"):
            return found + self._values
        if part == "time":
            return found + self._writes
        return self._numbers[found] if part == "answer" else found
