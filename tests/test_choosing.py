"""Section 13: which plans are right, prices, and the cheapest right plan."""

import inspect
import itertools
import unittest

from tapedonce.choosing import by_room, cheapest, harmful, price_of, shows_cheapest, spare
from tapedonce.errors import BadNames, BadPlan, BadPrices, TooMany, Wrong
from tapedonce.judging import right, story_told
from tapedonce.plans import Plan
from tapedonce.worlds import Setup, World
from tests.drawn import drawn_setups
from tests.making import Refusing
from tests.values import any_values, is_plain

BARE = World(2, 1, (), ())


def guarded(hand, x):
    return [0, 1][int(hand.holds(x == 0, "g"))]


def turning():
    """The setup of the document: more guards can be worse."""
    def sign(hand, y):
        return [0, 1][int(hand.holds(y == 0, "g"))]

    def turn(hand, x):
        hand.put("c", 1 - hand.cell("c"))
        hand.holds(x == 0, "e")
        return [x, (1 - hand.cell("c")) * x][int(hand.holds(hand.cell("c") == 1, "u"))]

    return Setup(World(2, 1, (("c", 0),), ()), (("sign", sign, "n"), ("turn", turn, "n")), 2)


def reckoned_cost(prices, plan):
    """What a plan costs, by the words of the document."""
    named, owned = dict(prices[0]), dict(prices[3])
    cost = sum(named[name] for name in plan.guards) + sum(owned[name] for name in plan.own)
    return cost + (0 if plan.known else prices[1]) + (prices[2] if plan.held else 0)


def subsets(pairs):
    names = [pair[0] for pair in pairs]
    return [chosen for many in range(len(names) + 1) for chosen in itertools.combinations(names, many)]


def reckoned_plans(prices):
    """All plans that prices let, in sequence."""
    found = []
    for guards, own in itertools.product(subsets(prices[0]), subsets(prices[3])):
        for known, held in itertools.product((True, False), repeat=2):
            found.append(Plan(guards, known=known, held=held, own=own))
    return sorted(found, key=lambda plan: (reckoned_cost(prices, plan), (plan.guards, plan.known, plan.held, plan.own)))


class Costs(unittest.TestCase, Refusing):

    setup = Setup(BARE, (("v", guarded, "n"), ("w", guarded, "n"), ("x", guarded, "n")), 1)
    prices = ((("e", 1), ("g", 2), ("h", 9)), 3, 4, (("v", 5), ("x", 0)))

    def test_what_plans_cost(self):
        self.assertEqual(price_of(self.setup, self.prices, Plan()), 7)
        self.assertEqual(price_of(self.setup, self.prices, Plan(known=True)), 4)
        self.assertEqual(price_of(self.setup, self.prices, Plan(held=False)), 3)
        self.assertEqual(price_of(self.setup, self.prices, Plan(("e", "h"), known=True, held=False, own=("v",))), 15)
        self.assertEqual(price_of(plan=Plan(("g",), own=("v", "x")), prices=self.prices, setup=self.setup), 14)
        for plan in reckoned_plans(self.prices):
            self.assertEqual(price_of(self.setup, self.prices, plan), reckoned_cost(self.prices, plan))

    def test_plans_that_are_not_let(self):
        for plan in (Plan(("f",)), Plan(("e", "f", "g")), Plan(own=("w",)), Plan(own=("v", "w")), Plan(own=("other",)), Plan(("v",)), Plan(own=("e",))):
            self.refused(BadPlan, plan, price_of, self.setup, self.prices, plan)
        plan = Plan(("e",))
        self.refused(BadPlan, plan, price_of, self.setup, ((), 0, 0, ()), plan)
        self.assertEqual(price_of(self.setup, ((), 0, 0, ()), Plan()), 0)

    def wrong_prices(self):
        wrong = any_values() + [self.prices[:3], self.prices + (0,), list(self.prices)]
        named = any_values() + [list(self.prices[0]), (("e", 1), ("e", 2)), (("g", 1), ("e", 2)), (("e", -1),), (("e", 10),), (("e", True),)]
        named += [(["e", 1],), (("e",),), (("e", 1, 1),), (("E", 1),), ((1, 1),), (("abcdefghi", 1),), (("", 1),), ("e1",), (("e", "1"),), (("e", None),)]
        named += [tuple((name, 1) for name in "abcde"), {"e": 1}, (("e", 1), ("e", 1))]
        wrong += [(value,) + self.prices[1:] for value in named if value != ()]
        for value in any_values() + [10, -1, (1,)]:
            if not (is_plain(value) and 0 <= value <= 9):
                wrong += [(self.prices[0], value) + self.prices[2:], self.prices[:2] + (value,) + self.prices[3:]]
        owned = any_values() + [(("v", 1), ("w", 1), ("x", 1)), (("u", 1),), (("x", 1), ("v", 1)), (("v", 1), ("v", 2)), (("v", 10),), (("v", False),)]
        owned += [(("v", -1),), [("v", 1)], (["v", 1],), (("v",),), (("v", 1, 1),), ((b"v", 1),), (("v", 1), ("y", 1)), ((None, 1),)]
        return wrong + [self.prices[:3] + (value,) for value in owned if value != ()]

    def test_what_are_no_prices(self):
        for value in self.wrong_prices():
            self.refused(BadPrices, value, price_of, self.setup, value, Plan(("no",)))
            self.refused(BadPrices, value, cheapest, self.setup, value)
            self.refused(BadPrices, value, by_room, prices=value, setup=self.setup)
            self.refused(BadPrices, value, shows_cheapest, self.setup, value, None)

    def test_prices_at_the_limits(self):
        for prices in (((), 0, 0, ()), ((), 9, 9, ()), (tuple((name, 9) for name in "abcd"), 0, 9, (("v", 9), ("w", 0))), ((("v", 1),), 0, 0, (("v", 2),)),
                       ((("abcdefgh", 0),), 0, 0, ())):
            for plan in reckoned_plans(prices):
                self.assertEqual(price_of(self.setup, prices, plan), reckoned_cost(prices, plan))


class Searched(unittest.TestCase, Refusing):
    """Setups made by chance; all plans are tried by the tests, too."""

    most = 20

    def found(self, reckoned, plan):
        told = reckoned.by(plan).found(self.most)
        return told or ("too many", None)

    def check_story(self, setup, plan, reckoned, story, many):
        self.assertIs(story.__class__, tuple)
        self.assertEqual(len(story), many)
        self.assertTrue(reckoned.by(plan).is_wrong_at_last(story))

    def test_spare_and_harmful(self):
        seen = {"right": 0, "wrong": 0, "spare": 0, "wanted": 0, "harmful": 0, "harmless": 0}
        for setup, plan, reckoned in drawn_setups(range(150)):
            told = self.found(reckoned, plan)
            fewer = {name: self.found(reckoned, plan.without(name)) for name in plan.guards}
            names = ("d", "e", "g", "h")
            more = {name: self.found(reckoned, plan.with_guard(name)) for name in names if name not in plan.guards}
            if "too many" in [found[0] for found in (told, *fewer.values(), *more.values())]:
                continue
            seen[told[0]] += 1
            if told[0] == "wrong":
                self.check_wrong(setup, plan, reckoned, told[1])
                continue
            self.assertEqual(spare(setup, plan), tuple(name for name in plan.guards if fewer[name][0] == "right"))
            found = harmful(setup, plan, names)
            self.assertEqual([name for name, _ in found], [name for name in sorted(more) if more[name][0] == "wrong"])
            for name, story in found:
                self.check_story(setup, plan.with_guard(name), reckoned, story, more[name][1])
            seen["spare"] += sum(found[0] == "right" for found in fewer.values())
            seen["wanted"] += sum(found[0] == "wrong" for found in fewer.values())
            seen["harmful"] += len(found)
            seen["harmless"] += len(more) - len(found)
        # Guards that do harm are too rare to be drawn: they are written out below.
        self.assertGreaterEqual(min(seen[word] for word in seen if word != "harmful"), 5, seen)

    def check_wrong(self, setup, plan, reckoned, many):
        for act in (lambda: spare(setup, plan), lambda: harmful(setup, plan, ()), lambda: harmful(names=("d", "e"), plan=plan, setup=setup)):
            with self.assertRaises(Wrong) as told:
                act()
            self.assertIs(told.exception.__class__, Wrong)
            self.assertEqual([*vars(told.exception)], ["story"])
            self.check_story(setup, plan, reckoned, told.exception.story, many)

    def prices_of(self, setup, seed):
        owned = tuple((work[0], (seed + 2 * k) % 4) for k, work in enumerate(setup.works))
        named = tuple((name, (seed * (k + 3) + k) % 5) for k, name in enumerate(("e", "g") if seed % 3 else ("g", "h")))
        return named, seed % 3, (seed // 2) % 4, owned[:1 + seed % 2]

    def test_cheapest(self):
        seen, ahead = {"plan": 0, "none": 0}, set()
        for seed, (setup, _, reckoned) in enumerate(drawn_setups(range(60))):
            prices = self.prices_of(setup, seed)
            expected = self.expected(setup, prices, reckoned)
            if expected is None:
                continue
            found = cheapest(setup, prices)
            self.check_cheapest(setup, prices, reckoned, expected, found)
            seen[found[0]] += 1
            ahead.add(len(found[-1]))
            if seed % 4 == 0:
                self.check_rooms(setup, prices, reckoned)
        self.assertGreater(min(seen.values()), 4, seen)
        self.assertGreater(len(ahead), 3)

    def expected(self, setup, prices, reckoned, room=None):
        """(plan or None, states, for each plan ahead how many deeds); None if there are too many states."""
        ahead = []
        for plan in reckoned_plans(prices):
            told = reckoned.by(plan, room).found(self.most)
            if told is None:
                return None
            if told[0] == "right":
                return plan, told[1], ahead
            ahead.append((plan, told[1]))
        return None, None, ahead

    def check_cheapest(self, setup, prices, reckoned, expected, found):
        self.assertIs(found.__class__, tuple)
        plan, states, ahead = expected
        if plan is None:
            self.assertEqual((found[0], len(found)), ("none", 2))
        else:
            self.assertEqual(found[:4], ("plan", reckoned_cost(prices, plan), plan, states))
            self.assertEqual(len(found), 5)
        reasons = found[-1]
        self.assertIs(reasons.__class__, tuple)
        self.assertEqual([reason[0] for reason in reasons], [plan for plan, _ in ahead])
        for (other, story), (_, many) in zip(reasons, ahead, strict=True):
            self.check_story(setup, other, reckoned.by(other, setup.places), story, many)
        self.assertIs(shows_cheapest(setup, prices, found), True)

    def check_rooms(self, setup, prices, reckoned):
        expected = [self.expected(setup, prices, reckoned, room) for room in (1, 2)]
        if None in expected:
            return
        found = by_room(setup, prices)
        self.assertEqual((found.__class__, len(found)), (tuple, 2))
        for room in (1, 2):
            other = Setup(setup.world, setup.works, room)
            self.check_cheapest(other, prices, reckoned.by(Plan(), room), expected[room - 1], found[room - 1])
            self.assertEqual(found[room - 1], cheapest(other, prices))


class Guards(unittest.TestCase, Refusing):
    """spare and harmful: cases written out, and what is refused."""

    def test_six_guards_take_none_more(self):
        setup = Setup(BARE, (("work", guarded, "n"),), 2)
        plan = Plan(("a", "b", "c", "d", "e", "g"))
        self.assertEqual(harmful(setup, plan, ("f", "h")), ())
        self.assertEqual(harmful(setup, plan, ()), ())
        self.assertEqual(spare(setup, plan), ("a", "b", "c", "d", "e"))
        wrong = Plan(("a", "b", "c", "d", "e", "f"))
        with self.assertRaises(Wrong) as told:
            harmful(setup, wrong, ("g",))
        self.assertEqual(len(told.exception.story), 2)

    def test_guards_of_the_plan_are_passed(self):
        setup = turning()
        self.assertEqual([name for name, _ in harmful(setup, Plan(("g",)), ("a", "e", "g", "u"))], ["e"])
        self.assertEqual(harmful(setup, Plan(("g",)), ("g",)), ())
        self.assertEqual(harmful(setup, Plan(("g",)), ("a", "b", "f", "g", "h", "u")), ())

    def test_stories_of_harmful(self):
        setup = turning()
        ((name, story),) = harmful(setup, Plan(("g",)), ("e",))
        told = story_told(setup, Plan(("e", "g")), story)
        self.assertEqual([wrong for _, _, wrong in told], [False, False, True])

    def test_what_are_no_names(self):
        setup = turning()
        wrong = [value for value in any_values() if value != ()]
        wrong += [["e"], ("u", "e"), ("e", "e"), tuple("abcdefh"), ("E",), ("e", 1), "eu", {"e": 1}, ("abcdefghi",), ("e", None), ("",)]
        for value in wrong:
            self.refused(BadNames, value, harmful, setup, Plan(("g",)), value)
            # A wrong plan is told behind this, one that does not fit ahead of it.
            self.refused(BadNames, value, harmful, setup, Plan(), value)
            plan = Plan(own=("other",))
            self.refused(BadPlan, plan, harmful, names=value, plan=plan, setup=setup)
        plan = Plan(own=("other",))
        self.refused(BadPlan, plan, spare, setup, plan)
        self.assertEqual(harmful(setup, Plan(("g",)), tuple("abcdef")), harmful(setup, Plan(("g",)), ("e",)))

    def test_the_functions_are_as_listed(self):
        listed = {
            spare: ["setup", "plan"], harmful: ["setup", "plan", "names"], price_of: ["setup", "prices", "plan"],
            cheapest: ["setup", "prices"], shows_cheapest: ["setup", "prices", "value"], by_room: ["setup", "prices"],
        }
        for function, names in listed.items():
            self.assertEqual(function.__module__, "tapedonce.choosing")
            self.assertEqual([*inspect.signature(function).parameters], names)


class Many(unittest.TestCase, Refusing):
    """Plans with more than 300 states."""

    world = World(4, 1, (("c", 0),), (), ("c",))

    def deep(self, x):
        for _ in range(9):
            x = -x
        return x

    def asks(self, hand, x, y):
        """Tells 0 always; with h its tapes are for one pair of values each, with g it has none at all."""
        hand.holds(self.deep(x) == 1, "g")
        for n in range(4):
            hand.holds(x == n, "h")
            hand.holds(y == n, "h")
        return 0

    def setup(self):
        return Setup(self.world, (("work", self.asks, "nn"),), 2)

    def test_spare_goes_plan_by_plan(self):
        setup = self.setup()
        self.assertEqual(right(setup, Plan(("g", "h")))[0], "right")
        self.raises(TooMany, "number", 300, right, setup, Plan(("h",)))
        self.raises(TooMany, "number", 300, spare, setup, Plan(("g", "h")))
        self.raises(TooMany, "number", 300, spare, setup, Plan(("h",)))
        self.assertEqual(spare(setup, Plan(("g",))), ("g",))

    def test_harmful_goes_plan_by_plan(self):
        setup = self.setup()
        self.assertEqual(harmful(setup, Plan(()), ("a", "g")), ())
        self.raises(TooMany, "number", 300, harmful, setup, Plan(()), ("a", "h"))
        self.raises(TooMany, "number", 300, harmful, setup, Plan(("h",)), ("a",))
        self.raises(TooMany, "number", 300, harmful, setup, Plan(("h",)), ())

    def test_cheapest_goes_plan_by_plan(self):
        setup = self.setup()
        self.assertEqual(cheapest(setup, ((("h", 1),), 0, 0, ()))[:3], ("plan", 0, Plan(held=False)))

        def wants(hand, x):
            return 1 if hand.holds(x == 0, "h") else 0

        setup = Setup(self.world, (("wants", wants, "n"), ("work", self.asks, "nn")), 2)
        prices = ((("g", 2), ("h", 1)), 0, 0, ())
        # The first plans are wrong, the first one with h has too many states.
        self.raises(TooMany, "number", 300, cheapest, setup, prices)
        self.raises(TooMany, "number", 300, by_room, setup, prices)
        for value in (None, ("none", ())):
            self.raises(TooMany, "number", 300, shows_cheapest, setup, prices, value)


class Near(unittest.TestCase, Refusing):

    setup = Setup(BARE, (("work", guarded, "n"),), 2)
    prices = ((("e", 1), ("g", 2)), 0, 1, (("work", 1),))

    def test_near_plan(self):
        found = cheapest(self.setup, self.prices)
        self.assertEqual(found[:3], ("plan", 2, Plan(("g",), held=False)))
        tag, price, plan, states, reasons = found
        near = any_values() + [list(found), found[:4], found + (0,), ("none", reasons), ("Plan",) + found[1:], (b"plan",) + found[1:]]
        near += [(tag, value, plan, states, reasons) for value in any_values() + [3] if not (is_plain(value) and value == 2)]
        near += [(tag, price, value, states, reasons) for value in any_values() + [Plan(("g",)), Plan(), ("g",), Plan(("g",), known=True, held=False)]]
        near += [(tag, price, plan, value, reasons) for value in any_values() + [list(states), states[:-1], states[::-1], states + states[:1]]]
        near += [(tag, price, plan, states, value) for value in any_values() + [list(reasons), reasons[:-1], reasons[::-1], reasons + reasons[:1]]]
        for k, (other, story) in enumerate(reasons):
            rest = [list(reasons[k]), (other,), (other, story, 0), (story, other), (Plan(("g",), held=False), story), (None, story)]
            rest += [(other, value) for value in any_values() + [list(story), story[:1], story * 2, (story[0], story[0])]]
            near += [(tag, price, plan, states, reasons[:k] + (row,) + reasons[k + 1:]) for row in rest]
        for value in near:
            self.assertIs(shows_cheapest(self.setup, self.prices, value), False)
        self.assertIs(shows_cheapest(value=found, prices=self.prices, setup=self.setup), True)
        turned = tuple((Plan(other.guards, known=other.known, held=other.held, own=other.own), story[::-1]) for other, story in reasons)
        self.assertIs(shows_cheapest(self.setup, self.prices, (tag, price, Plan(("g",), held=False), states, turned)), True)

    def test_near_none(self):
        prices = ((("e", 1),), 0, 1, ())
        found = cheapest(self.setup, prices)
        self.assertEqual((found[0], len(found), len(found[1])), ("none", 2, 8))
        reasons = found[1]
        near = any_values() + [list(found), found[:1], found + (0,), ("None",) + found[1:], (None,) + found[1:], ("plan", reasons)]
        near += [("none", value) for value in any_values() + [list(reasons), reasons[:-1], reasons[::-1], reasons + reasons[:1]]]
        for value in near:
            self.assertIs(shows_cheapest(self.setup, prices, value), False)
        self.assertIs(shows_cheapest(self.setup, prices, found), True)

    def test_plans_come_by_cost_and_then_by_their_parts(self):
        prices = ((("a", 1), ("b", 1)), 1, 1, (("work", 1),))
        found = cheapest(self.setup, prices)
        self.assertEqual(found[0], "none")
        self.assertEqual([plan for plan, _ in found[1]], reckoned_plans(prices))
        first = [(plan.guards, plan.known, plan.held, plan.own) for plan, _ in found[1][:7]]
        self.assertEqual(first, [
            ((), True, False, ()), ((), False, False, ()), ((), True, False, ("work",)), ((), True, True, ()),
            (("a",), True, False, ()), (("b",), True, False, ()), ((), False, False, ("work",)),
        ])


class Examples(unittest.TestCase):

    def test_more_guards_can_be_worse(self):
        setup = Setup(World(2, 1, (("c", 0),), ()), (("sign", lambda hand, y: [0, 1][int(hand.holds(y == 0, "g"))], "n"), ("turn", lambda hand, x: [hand.put("c", 1 - hand.cell("c")), hand.holds(x == 0, "e"), [x, (1 - hand.cell("c")) * x][int(hand.holds(hand.cell("c") == 1, "u"))]][2], "n")), 2)
        self.assertEqual([(name, len(story)) for name, story in harmful(setup, Plan(("g",)), ("e", "u"))], [("e", 3)])
        self.assertEqual(spare(setup, Plan(("e", "g", "u"))), ("e",))


if __name__ == "__main__":
    unittest.main()
