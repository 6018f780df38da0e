"""Keys and what tapes and works tell at them, by the tests' own reckoning."""

import itertools

from tests.reckoning import Field, TapeReckoner, reckoned_plainly


def keys_of(world, kinds):
    """All keys, ascending."""
    items = [()] + [items for many in range(1, world.most + 1) for items in itertools.product(range(world.size), repeat=many)]
    worths = itertools.product(range(world.size), repeat=len(world.cells))
    rows = [*itertools.product(items, repeat=len(world.rows))]
    values = [*itertools.product(*[range(world.size) if kind == "n" else [name for name, _ in world.rows] for kind in kinds])]
    return sorted(itertools.product(worths, rows, values))


class Held:
    guards, known, held, own = (), False, True, ()


def told_by(tape, key):
    """What a held run of a tape without calls tells at a key."""
    field = Field(tape.world, {}, {}, 1)
    field.lay(key[:2])
    told = TapeReckoner(field, Held, key[2], 1).told((tape.steps, tape.end))
    return None if told is None else (told, *field.stand())


def table_of(tape):
    """The table of a tape's doing."""
    return tuple((*key, told_by(tape, key)) for key in keys_of(tape.world, tape.kinds))


def plain_table(world, kinds, script):
    """The table of the plain runs of a script."""
    found = []
    for key in keys_of(world, kinds):
        told, stand = reckoned_plainly(world, {"w": script}, {"w": kinds}, key[:2], ("call", "w", key[2]))
        found.append((*key, (told, *stand)))
    return tuple(found)


def behind(one, other, kinds):
    """The table of & of two tables, kinds being those of one."""
    many, found = len(kinds), {row[:3]: row[3] for row in other}
    table = []
    for worths, items, values, told in one:
        for second in sorted({row[2] for row in other}):
            if told is not None and told[0][0] == "gives":
                table.append((worths, items, values + second, found[told[1], told[2], second]))
            else:
                table.append((worths, items, values + second, told))
    assert all(len(row[2]) >= many for row in table)
    return tuple(sorted(table, key=lambda row: row[:3]))
