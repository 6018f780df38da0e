"""Keys of a world and kinds: the stands and values at which doings tell something."""

from tapedonce.errors import TooMany
from tapedonce.stands import are_values, is_stand
from tapedonce.worlds import all_items, all_values

MOST_KEYS = 1000


def is_key(world, kinds, value):
    """Whether any value is a key."""
    if not isinstance(value, tuple) or len(value) != 3:
        return False
    return is_stand(world, value[:2]) and are_values(world, kinds, value[2])


def check_few(world, kinds):
    """Lets no kinds pass for which there are too many keys."""
    many = 1
    for choices in _choices(world):
        many = many * len(choices)
    for kind in kinds:
        many = many * (len(world.rows) if kind == "r" else world.size)
    if many > MOST_KEYS:
        raise TooMany(MOST_KEYS)


def all_keys(world, kinds):
    """All keys, ascending."""
    stands = [()]
    for choices in _choices(world):
        stands = [(*stand, choice) for stand in stands for choice in choices]
    cells = len(world.cells)
    values = all_values(world, kinds)
    return [(stand[:cells], stand[cells:], handed) for stand in stands for handed in values]


def _choices(world):
    """What each cell can be, and behind these what each row can be."""
    worths, items = list(range(world.size)), all_items(world)
    return [worths for _ in world.cells] + [items for _ in world.rows]
