"""How often works are taped: the most that any story has them taped, and when no deed tapes any more."""

from tapedonce.forms import are_alike
from tapedonce.judging import are_deeds
from tapedonce.orders import ascending
from tapedonce.plans import check_fit
from tapedonce.ways import Ways


def most_taped(setup, plan):
    """("most", n, story, heights), or ("endless", story, ring) if there is no greatest number of deeds that tape."""
    check_fit(setup, plan)
    return _most_taped(Ways(setup, plan))


def shows_most_taped(setup, plan, value):
    """Whether any value is a result of most_taped."""
    check_fit(setup, plan)
    ways = Ways(setup, plan)
    found = _most_taped(ways)
    if not isinstance(value, tuple) or len(value) != len(found) or not are_alike(found[0], value[0]):
        return False
    if found[0] == "endless":
        return _shows_ring(ways, value[1], value[2])
    if not are_alike(found[1], value[1]) or not are_alike(found[3], value[3]):
        return False
    return _shows_most(ways, found[1], value[2])


def warmed(setup, plan):
    """("warm", story, states) if deeds lead to a warm state, otherwise ("never", rows)."""
    check_fit(setup, plan)
    return _warmed(Ways(setup, plan))


def shows_warmed(setup, plan, value):
    """Whether any value is a result of warmed."""
    check_fit(setup, plan)
    ways = Ways(setup, plan)
    found = _warmed(ways)
    if not isinstance(value, tuple) or len(value) != len(found) or not are_alike(found[0], value[0]):
        return False
    if found[0] == "warm":
        return _shows_warm(ways, len(found[1]), value[1], value[2])
    if not isinstance(value[1], tuple) or len(value[1]) != len(found[1]):
        return False
    return all([_shows_cold(ways, row, other) for row, other in zip(found[1], value[1])])


def _most_taped(ways):
    ring = _ring(ways)
    if ring is not None:
        return "endless", ways.stories_from(0)[ring[0]], ring[1]
    heights = _heights(ways)
    rows = ascending([(state, height) for state, height in zip(ways.met, heights)])
    return "most", heights[0], _story_of_most(ways, heights), tuple(rows)


def _ring(ways):
    """A state, and deeds from it that lead to it again, one of which tapes; None if there are none."""
    for target in range(len(ways.met)):
        sources = [number for number, taping in enumerate(ways.taping) if target in taping]
        if sources:
            stories = ways.stories_from(target)
            for number in sources:
                if number in stories:
                    return number, (ways.taping[number][target], *stories[number])
    return None


def _heights(ways):
    """For each state the greatest number of deeds of a story from there that tape; no ring has one that tapes."""
    heights, grows = [0 for _ in ways.met], True
    while grows:
        grows = False
        # What lies behind is looked at first: most of it was met later.
        for number in reversed(range(len(heights))):
            height = _height(ways, heights, number)
            if height > heights[number]:
                heights[number], grows = height, True
    return heights


def _height(ways, heights, number):
    """The height of a state, as far as those of the next ones are known."""
    onward = [heights[target] for target in ways.onward[number]]
    taping = [heights[target] + 1 for target in ways.taping[number]]
    return max([int(height) for height in onward + taping])


def _story_of_most(ways, heights):
    """A story with as many deeds that tape as there can be, the last of which tapes."""
    number, story = 0, ()
    while heights[number] > 0:
        part, number = _to_lower(ways, heights, number)
        story = story + part
    return story


def _to_lower(ways, heights, number):
    """Deeds of which the last one alone tapes and leads to a state one lower; and the number of that."""
    # What leads down by one from anywhere behind stands as high as this state, and so does all between them.
    near, lower = ways.stories_from(number), heights[number] - 1
    found = [
        ((*near[at], deed), target)
        for at in near for target, deed in ways.taping[at].items() if heights[target] == lower
    ]
    return found[0]


def _walked(ways, start, story):
    """The number of the state behind a story, and for each of its deeds whether it tapes."""
    number, told = start, []
    for deed in story:
        number, tapes = ways.lead_of(number, deed)
        told.append(tapes)
    return number, told


def _shows_most(ways, many, value):
    """Whether any value is a story with so many deeds that tape, the last one among them."""
    if not are_deeds(ways.of_setup, value):
        return False
    told = _walked(ways, 0, value)[1]
    return told.count(True) == many and (value == () or told[-1])


def _shows_ring(ways, story, ring):
    """Whether any values are a story, and deeds that lead from there to the same state again, one of which tapes."""
    if not are_deeds(ways.of_setup, story) or not are_deeds(ways.of_setup, ring):
        return False
    start = _walked(ways, 0, story)[0]
    number, told = _walked(ways, start, ring)
    return number == start and True in told


def _warmed(ways):
    fewest = _fewest_to_tape(ways)
    stories = ways.stories_from(0)
    for number, story in stories.items():
        if fewest[number] is None:
            return "warm", story, _states_from(ways, number)
    rows = ascending([(state, _story_to_tape(ways, fewest, at)) for at, state in enumerate(ways.met)])
    return "never", tuple(rows)


def _fewest_to_tape(ways):
    """For each state of how many deeds a story has to be of which the last one tapes, None if there is none."""
    fewest = [1 if taping else None for taping in ways.taping]
    many, grows = 1, True
    while grows:
        behind = [at for at in range(len(fewest)) if fewest[at] is None and _is_ahead_of(ways, fewest, at, many)]
        many, grows = many + 1, len(behind) > 0
        for at in behind:
            fewest[at] = many
    return fewest


def _is_ahead_of(ways, fewest, number, many):
    """Whether a deed leads from a state to one from which it takes so many deeds to tape."""
    return any([fewest[target] == many for target in ways.onward[number]])


def _story_to_tape(ways, fewest, number):
    """A story of fewest deeds from a state that is not warm, of which the last one tapes."""
    story = ()
    while not ways.taping[number]:
        nearer = [target for target in ways.onward[number] if fewest[target] == fewest[number] - 1]
        story, number = (*story, ways.onward[number][nearer[0]]), nearer[0]
    return (*story, list(ways.taping[number].values())[0])


def _states_from(ways, number):
    """All states to which deeds lead from one, it among them, ascending."""
    return tuple(ascending([ways.met[at] for at in ways.stories_from(number)]))


def _shows_warm(ways, many, story, states):
    """Whether any values are a story of so many deeds to a warm state, and all states to which deeds lead from it."""
    if not are_deeds(ways.of_setup, story) or len(story) != many:
        return False
    number = _walked(ways, 0, story)[0]
    if _fewest_to_tape(ways)[number] is not None:
        return False
    return are_alike(_states_from(ways, number), states)


def _shows_cold(ways, row, value):
    """Whether any value is the row of a state, with another story of as many deeds, perhaps, that tapes at last."""
    if not isinstance(value, tuple) or len(value) != 2 or not are_alike(row[0], value[0]):
        return False
    if not are_deeds(ways.of_setup, value[1]) or len(value[1]) != len(row[1]):
        return False
    return _walked(ways, ways.number_of(row[0]), value[1])[1][-1]
