"""Scenes: a world as it stands while works or tapes are run."""

from tapedonce.stands import items_in, with_thing, worth_in


class Scene:
    """A world with its stand, which is replaced whenever something is written."""

    def __init__(self, world, stand):
        self.of_world = world
        self.stand = stand

    def worth_of(self, name):
        """The worth of a cell now."""
        return worth_in(self.of_world, self.stand, name)

    def items_of(self, name):
        """The items of a row now."""
        return items_in(self.of_world, self.stand, name)

    def write(self, name, thing):
        """Puts a worth into a cell, or other items into a row."""
        self.stand = with_thing(self.of_world, self.stand, name, thing)
