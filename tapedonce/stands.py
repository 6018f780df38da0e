"""Stands of a world, and values and deeds: what has their form, and what a stand has under a name."""

from tapedonce.forms import are_items, is_whole


def is_stand(world, value):
    """Whether value is a stand of the world."""
    if not isinstance(value, tuple) or len(value) != 2:
        return False
    worths, rows = value
    if not isinstance(worths, tuple) or len(worths) != len(world.cells):
        return False
    if not isinstance(rows, tuple) or len(rows) != len(world.rows):
        return False
    if not all([is_whole(worth, 0, world.size) for worth in worths]):
        return False
    return all([are_items(row, world.size, world.most) for row in rows])


def are_values(world, kinds, value):
    """Whether value is values of these kinds."""
    if not isinstance(value, tuple) or len(value) != len(kinds):
        return False
    return all([_is_value(world, kind, part) for kind, part in zip(kinds, value)])


def _is_value(world, kind, value):
    if kind == "n":
        return is_whole(value, 0, world.size)
    return isinstance(value, str) and world.row_number(value) is not None


def is_deed(setup, value):
    """Whether value is a deed of the setup."""
    if not isinstance(value, tuple) or len(value) != 3:
        return False
    word, name, rest = value
    if word == "change":
        return name in setup.world.loose and is_thing(setup.world, name, rest)
    number = setup.work_number(name)
    if word != "call" or number is None:
        return False
    return are_values(setup.world, setup.works[number][2], rest)


def is_thing(world, name, value):
    """Whether value is what the cell or the row of this name may be changed to."""
    if world.cell_number(name) is None:
        return are_items(value, world.size, world.most)
    return is_whole(value, 0, world.size)


def worth_in(world, stand, name):
    """The worth of a cell."""
    return stand[0][world.cell_number(name)]


def items_in(world, stand, name):
    """The items of a row."""
    return stand[1][world.row_number(name)]


def with_thing(world, stand, name, thing):
    """A stand that is otherwise in one name alone, of a cell or of a row."""
    worths, rows = stand
    at = world.cell_number(name)
    if at is None:
        at = world.row_number(name)
        return worths, rows[:at] + (thing,) + rows[at + 1:]
    return worths[:at] + (thing,) + worths[at + 1:], rows
