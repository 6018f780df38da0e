"""Worlds, which lie outside of works, and setups of works in a world."""

from tapedonce.errors import BadSetup, BadWorld
from tapedonce.forms import (
    are_items, are_kinds, are_names, are_pairs, are_rising, is_most, is_name, is_size, is_whole,
)

MOST_CELLS = 2
MOST_ROWS = 2
MOST_WORKS = 3
MOST_VALUES = 3


class World:
    """Numbers and rows outside of works: what they are at first, and which of them others may change."""

    def __init__(self, size, most, cells, rows, loose=()):
        if not is_size(size):
            raise BadWorld(size)
        if not is_most(most):
            raise BadWorld(most)
        if not _are_cells(cells, size):
            raise BadWorld(cells)
        if not _are_rows(rows, size, most, cells):
            raise BadWorld(rows)
        if not _are_loose(loose, cells, rows):
            raise BadWorld(loose)
        self._size = size
        self._most = most
        self._cells = cells
        self._rows = rows
        self._loose = loose
        self._cell_numbers = {cell[0]: at for at, cell in enumerate(cells)}
        self._row_numbers = {row[0]: at for at, row in enumerate(rows)}

    @property
    def size(self):
        return self._size

    @property
    def most(self):
        return self._most

    @property
    def cells(self):
        return self._cells

    @property
    def rows(self):
        return self._rows

    @property
    def loose(self):
        return self._loose

    @property
    def first(self):
        """The stand that cells and rows tell."""
        return tuple([cell[1] for cell in self._cells]), tuple([row[1] for row in self._rows])

    def __eq__(self, other):
        if not isinstance(other, World):
            return False
        if self._size != other.size or self._most != other.most or self._loose != other.loose:
            return False
        return self._cells == other.cells and self._rows == other.rows

    def cell_number(self, name):
        """The number of a cell in the sequence of their names, None if there is no such cell."""
        return self._cell_numbers.get(name)

    def row_number(self, name):
        """The number of a row in the sequence of their names, None if there is no such row."""
        return self._row_numbers.get(name)


class Setup:
    """Works in a world, and how many tapes the keeper of each has at most."""

    def __init__(self, world, works, room):
        if not _are_works(works, world):
            raise BadSetup(works)
        if not is_whole(room, 1, 3):
            raise BadSetup(room)
        self._world = world
        self._works = works
        self._places = room
        self._numbers = {work[0]: at for at, work in enumerate(works)}
        self._deeds = tuple(_all_calls(world, works) + _all_changes(world))

    @property
    def world(self):
        return self._world

    @property
    def works(self):
        return self._works

    @property
    def places(self):
        return self._places

    @property
    def deeds(self):
        return self._deeds

    def work_number(self, value):
        """The number of the work that any value names, None if there is no such work."""
        if not isinstance(value, str):
            return None
        return self._numbers.get(value)


def _are_cells(value, size):
    return are_pairs(value, MOST_CELLS) and all([is_whole(cell[1], 0, size) for cell in value])


def _are_rows(value, size, most, cells):
    if not are_pairs(value, MOST_ROWS) or not all([are_items(row[1], size, most) for row in value]):
        return False
    taken = [cell[0] for cell in cells]
    return all([row[0] not in taken for row in value])


def _are_loose(value, cells, rows):
    taken = [cell[0] for cell in cells] + [row[0] for row in rows]
    return are_names(value, len(taken)) and all([name in taken for name in value])


def _are_works(value, world):
    if not isinstance(value, tuple) or not 1 <= len(value) <= MOST_WORKS:
        return False
    if not all([_is_work(part, world) for part in value]):
        return False
    return are_rising([work[0] for work in value])


def _is_work(value, world):
    if not isinstance(value, tuple) or len(value) != 3:
        return False
    return is_name(value[0]) and are_kinds(value[2], MOST_VALUES, bool(world.rows))


def _all_calls(world, works):
    """All calls, ascending."""
    return [("call", work[0], values) for work in works for values in all_values(world, work[2])]


def all_values(world, kinds):
    """All values of some kinds, ascending."""
    names = [row[0] for row in world.rows]
    found = [()]
    for kind in kinds:
        choices = names if kind == "r" else list(range(world.size))
        found = [(*values, choice) for values in found for choice in choices]
    return found


def _all_changes(world):
    """All changes, ascending."""
    found = []
    for name in world.loose:
        if world.cell_number(name) is None:
            things = all_items(world)
        else:
            things = list(range(world.size))
        found.extend([("change", name, thing) for thing in things])
    return found


def all_items(world):
    """All items that a row of the world may have, ascending."""
    found = [()]
    for one in range(world.size):
        found.append((one,))
        if world.most > 1:
            found.extend([(one, other) for other in range(world.size)])
    return found
