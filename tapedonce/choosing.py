"""Which plans are right: guards that are spare or do harm, prices, and the cheapest right plan."""

from tapedonce.errors import BadNames, BadPlan, BadPrices, Wrong
from tapedonce.forms import are_alike, are_names, are_pairs, is_whole
from tapedonce.judging import PlainRuns, judged, shows_wrong
from tapedonce.orders import ascending
from tapedonce.plans import MOST_GUARDS, Plan, check_fit
from tapedonce.worlds import Setup

MOST_PRICED = 4
MOST_OWN_PRICED = 2
PRICES = 10


def spare(setup, plan):
    """The guards without any one of which, the others staying, a right plan is right."""
    check_fit(setup, plan)
    runs = PlainRuns(setup)
    _check_right(setup, plan, runs)
    return tuple([name for name in plan.guards if judged(setup, plan.without(name), runs)[0] == "right"])


def harmful(setup, plan, names):
    """(name, story) for each name that is no guard of a right plan, and with which it is wrong."""
    check_fit(setup, plan)
    if not are_names(names, MOST_GUARDS):
        raise BadNames(names)
    runs = PlainRuns(setup)
    _check_right(setup, plan, runs)
    # A plan with as many guards as there can be takes none more.
    full = len(plan.guards) == MOST_GUARDS
    more = [name for name in names if name not in plan.guards and not full]
    found = [(name, judged(setup, plan.with_guard(name), runs)) for name in more]
    return tuple([(name, told[1]) for name, told in found if told[0] == "wrong"])


def price_of(setup, prices, plan):
    """What a plan costs that the prices let."""
    _check_prices(setup, prices)
    named, _, _, owned = prices
    if not _are_among(plan.guards, named) or not _are_among(plan.own, owned):
        raise BadPlan(plan)
    return _cost(prices, plan)


def cheapest(setup, prices):
    """("plan", price, plan, states, reasons) of the first right plan in sequence, ("none", reasons) without one."""
    _check_prices(setup, prices)
    runs, reasons = PlainRuns(setup), []
    for plan in _plans_in_sequence(prices):
        told = judged(setup, plan, runs)
        if told[0] == "right":
            return "plan", _cost(prices, plan), plan, told[1], tuple(reasons)
        reasons.append((plan, told[1]))
    return "none", tuple(reasons)


def shows_cheapest(setup, prices, value):
    """Whether any value is a result of cheapest."""
    found = cheapest(setup, prices)
    if not isinstance(value, tuple) or len(value) != len(found) or not are_alike(found[0], value[0]):
        return False
    if not _shows_reasons(setup, found[-1], value[-1]):
        return False
    if found[0] == "none":
        return True
    return are_alike(found[1], value[1]) and found[2] == value[2] and are_alike(found[3], value[3])


def by_room(setup, prices):
    """What cheapest tells with room 1, and what it tells with room 2."""
    return tuple([cheapest(Setup(setup.world, setup.works, room), prices) for room in (1, 2)])


def _check_right(setup, plan, runs):
    """Lets no wrong plan pass."""
    told = judged(setup, plan, runs)
    if told[0] == "wrong":
        raise Wrong(told[1])


def _check_prices(setup, value):
    """Lets nothing pass that is no prices of a setup."""
    if not _are_prices(setup, value):
        raise BadPrices(value)


def _are_prices(setup, value):
    if not isinstance(value, tuple) or len(value) != 4:
        return False
    named, back, hold, owned = value
    if not _are_priced(named, MOST_PRICED) or not _are_priced(owned, MOST_OWN_PRICED):
        return False
    return _is_price(back) and _is_price(hold) and all([setup.work_number(pair[0]) is not None for pair in owned])


def _are_priced(value, most):
    return are_pairs(value, most) and all([_is_price(pair[1]) for pair in value])


def _is_price(value):
    return is_whole(value, 0, PRICES)


def _are_among(names, priced):
    """Whether all names have a price."""
    return all([name in [pair[0] for pair in priced] for name in names])


def _cost(prices, plan):
    """What a plan costs that is known to be let."""
    named, back, hold, owned = prices
    cost = sum([pair[1] for pair in named if pair[0] in plan.guards])
    cost = cost + sum([pair[1] for pair in owned if pair[0] in plan.own])
    if not plan.known:
        cost = cost + back
    return cost + hold if plan.held else cost


def _plans_in_sequence(prices):
    """All plans that prices let, the cheapest first."""
    found = []
    for guards in _choices(prices[0]):
        for own in _choices(prices[3]):
            for known, held in ((False, False), (False, True), (True, False), (True, True)):
                cost = _cost(prices, Plan(guards, known=known, held=held, own=own))
                found.append((cost, guards, known, held, own))
    return [Plan(guards, known=known, held=held, own=own) for _, guards, known, held, own in ascending(found)]


def _choices(priced):
    """All tuples of names out of some that have prices, each ascending."""
    found = [()]
    for name, _ in priced:
        found = found + [(*names, name) for names in found]
    return found


def _shows_reasons(setup, reasons, value):
    """Whether any value is reasons like these, with other stories of as many deeds, perhaps."""
    if not isinstance(value, tuple) or len(value) != len(reasons):
        return False
    return all([_shows_reason(setup, reason, other) for reason, other in zip(reasons, value)])


def _shows_reason(setup, reason, value):
    if not isinstance(value, tuple) or len(value) != 2 or not reason[0] == value[0]:
        return False
    return shows_wrong(setup, reason[0], len(reason[1]), value[1])
