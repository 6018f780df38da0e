"""What is counted while works are run: their things, and how deep they stand."""

from tapedonce.errors import Fault
from tapedonce.texts import MOST_WORDS

MOST_THINGS = 40
DEEPEST_CALL = 3

# No fault of this word is taken, and no run that ends with it has a tape.
LONG = "long"


class Tally:
    """Counts the things of the work that is run just now, and tells how deep it stands."""

    def __init__(self, depth):
        self.depth = depth
        self._things = 0

    def count_thing(self):
        """Counts a thing, ahead of doing it."""
        if self._things == MOST_THINGS:
            raise Fault((LONG,))
        self._things = self._things + 1

    def check_depth(self):
        """Lets nothing be called by what stands as deep as may be."""
        if self.depth == DEEPEST_CALL:
            raise Fault(("deep",))

    def run_deeper(self, work, hand, values):
        """What a work returns that stands one deeper; its things are counted anew."""
        self.check_depth()
        depth, things = self.depth, self._things
        self.depth, self._things = depth + 1, 0
        try:
            return work(hand, *values)
        finally:
            self.depth, self._things = depth, things


def with_causes(words, causes):
    """The words of a fault with those of its cause behind them, as many as there may be."""
    return (words + causes)[:MOST_WORDS]
