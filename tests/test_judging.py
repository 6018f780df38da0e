"""Section 12: right and wrong plans."""

import inspect
import itertools
import unittest

from tapedonce.errors import BadPlan, BadStory, TooMany
from tapedonce.judging import right, shows_right, story_told
from tapedonce.keeping import first_state, kept
from tapedonce.numbers import Number
from tapedonce.plain import plainly
from tapedonce.plans import Plan
from tapedonce.worlds import Setup, World
from tests.drawn import drawn_setups
from tests.making import Refusing
from tests.reckoning import reckoned_plainly
from tests.values import any_values

BARE = World(2, 1, (), ())


def guarded(hand, x):
    return [0, 1][int(hand.holds(x == 0, "g"))]


class Searched(unittest.TestCase, Refusing):
    """Small setups made by chance, all states of which are searched by the tests, too."""

    def test_right_and_wrong(self):
        seen = {"right": 0, "wrong": 0}
        for setup, plan, reckoned in drawn_setups(range(130)):
            told = reckoned.found(60)
            if told is None:
                continue
            found = right(setup, plan)
            seen[told[0]] += 1
            self.assertEqual(found[0], told[0])
            if found[0] == "right":
                self.assertEqual(found, told)
                self.assertIs(found[1].__class__, tuple)
                self.assertTrue(shows_right(setup, plan, found))
            else:
                self.check_story(setup, plan, reckoned, found, told[1])
        self.assertGreater(min(seen.values()), 20)

    def check_story(self, setup, plan, reckoned, found, many):
        story = found[1]
        self.assertEqual((len(found), len(story)), (2, many))
        self.assertIs(story.__class__, tuple)
        state = first_state(setup)
        told = story_told(setup, plan, story)
        self.assertEqual(len(told), many)
        for at, deed in enumerate(story):
            self.assertIn(deed, setup.deeds)
            by_keeper, after = reckoned.after(state, deed)
            plain = None
            if deed[0] == "call":
                plain = reckoned_plainly(reckoned.world, reckoned.scripts, reckoned.kinds, state[0], deed)[0]
            self.assertEqual(told[at], (by_keeper, plain, reckoned.is_wrong(state, deed)))
            self.assertEqual(told[at][2], at == many - 1)
            state = after
        self.assertTrue(shows_right(setup, plan, found))
        for other in (story[:-1], story + story[-1:], (), list(story)):
            self.assertFalse(shows_right(setup, plan, ("wrong", other)))
        for deed in setup.deeds:
            changed = ("wrong", story[:-1] + (deed,))
            state = first_state(setup)
            for ahead in story[:-1]:
                state = reckoned.after(state, ahead)[1]
            self.assertEqual(shows_right(setup, plan, changed), reckoned.is_wrong(state, deed))

    def test_all_stories_of_fewest_deeds_show_it(self):
        setup = Setup(World(3, 1, (), ()), (("work", guarded, "n"),), 2)
        plan = Plan()
        self.assertEqual(len(right(setup, plan)[1]), 2)
        deeds = setup.deeds
        shown = [story for story in itertools.product(deeds, repeat=2) if shows_right(setup, plan, ("wrong", story))]
        # 0 has an answer of its own: it goes wrong behind all others, and these go wrong behind it.
        expected = [(one, two) for one, two in itertools.product(deeds, repeat=2) if (one[2] == (0,)) != (two[2] == (0,))]
        self.assertEqual(shown, expected)
        for many in (0, 1, 3):
            for story in itertools.product(deeds, repeat=many):
                self.assertFalse(shows_right(setup, plan, ("wrong", story)))


class Near(unittest.TestCase, Refusing):
    """Values that are no results, though near ones."""

    setup = Setup(World(2, 1, (("c", 0),), (), ("c",)), (("work", guarded, "n"),), 2)

    def test_near_right(self):
        plan = Plan(("g",))
        found = right(self.setup, plan)
        self.assertEqual((found[0], len(found[1])), ("right", 10))
        self.assertEqual(list(found[1]), sorted(found[1]))
        states = found[1]
        near = any_values() + [list(found), ("right",), found + ((),), ("wrong", states), ("right", list(states)), (states, "right")]
        near += [("right", states[::-1]), ("right", states[:-1]), ("right", states + states[-1:]), ("right", states[1:])]
        near += [("right", states[:3] + states[4:]), ("Right", states), (b"right", states), "right", states, ("right", ())]
        near += [("right", states[:1] * 2 + states[2:]), ("right", (list(states[0]),) + states[1:]), ("wrong", ())]
        for value in near:
            self.assertIs(shows_right(self.setup, plan, value), False)
        self.assertIs(shows_right(self.setup, plan, found), True)
        self.assertIs(shows_right(value=("right", tuple(states)), plan=plan, setup=self.setup), True)

    def test_worths_and_truths_are_those_of_the_result(self):
        plan = Plan(("g",))
        found = right(self.setup, plan)

        def swapped(thing, old, new):
            if isinstance(thing, tuple):
                return tuple(swapped(part, old, new) for part in thing)
            return new if type(thing) is type(old) and thing == old else thing

        for old, new in ((True, False), (False, True), (0, 1), (1, 0), (0, 2), (0, None), ("g", None), (0, False), (1, True), (True, 1), (False, 0), (0, Number(2, 0)), (1, Number(2, 1)), ("g", "h"), ("known", b"known")):
            value = swapped(found, old, new)
            self.assertIs(shows_right(self.setup, plan, value), repr(value) == repr(found))
            self.assertIs(shows_right(self.setup, plan, value), old == "g")

    def test_near_wrong(self):
        plan = Plan()
        found = right(self.setup, plan)
        self.assertEqual((found[0], len(found[1])), ("wrong", 2))
        story = found[1]
        near = any_values() + [list(found), ("wrong",), found + (0,), ("right", story), ("wrong", list(story)), story, "wrong"]
        near += [("wrong", story[:1]), ("wrong", story + story), ("wrong", story[::-1] + story[:1]), ("Wrong", story), ("wrong", None)]
        near += [("wrong", (story[0], story[0])), ("wrong", (("change", "c", 0), story[1])), ("wrong", (list(story[0]), story[1]))]
        near += [("wrong", (story[0], ("call", "work", (2,)))), ("wrong", (story[0], ("call", "work", (True,)))), (b"wrong", story)]
        for value in near:
            self.assertIs(shows_right(self.setup, plan, value), False)
        self.assertIs(shows_right(self.setup, plan, found), True)
        self.assertIs(shows_right(self.setup, plan, ("wrong", story[::-1])), True)


class Stories(unittest.TestCase, Refusing):

    world = World(2, 1, (("c", 0),), (), ("c",))
    setup = Setup(world, (("turn", lambda hand, x: [hand.put("c", 1 - hand.cell("c")), x][1] if x == 0 else hand.fail("no"), "n"),), 1)

    def test_each_deed_is_told(self):
        zero, one, change = ("call", "turn", (0,)), ("call", "turn", (1,)), ("change", "c", 1)
        gives, faults = ("gives", 0), ("faults", ("no",))
        self.assertEqual(story_told(self.setup, Plan(), ()), ())
        self.assertEqual(story_told(self.setup, Plan(), (change,)), ((None, None, False),))
        self.assertEqual(story_told(self.setup, Plan(), (zero, zero)), ((gives, gives, False),) * 2)
        found = story_told(story=(zero, change, one, zero, change), plan=Plan(), setup=self.setup)
        told = ((gives, gives, False), (None, None, False), (("gives", 1), faults, True), (gives, gives, False), (None, None, False))
        self.assertEqual(found, told)
        self.assertEqual(story_told(self.setup, Plan(), (one, one, zero)), ((faults, faults, False),) * 2 + ((faults, gives, True),))

    def test_another_stand_is_wrong_too(self):
        def work(hand, x):
            hand.put("c", x if x == 0 else x + 1)
            return 0

        setup = Setup(World(3, 1, (("c", 0),), ()), (("work", work, "n"),), 1)
        story = (("call", "work", (0,)), ("call", "work", (1,)), ("call", "work", (2,)))
        told = story_told(setup, Plan(), story)
        self.assertEqual(told, ((("gives", 0), ("gives", 0), False), (("gives", 0), ("gives", 0), True), (("gives", 0), ("gives", 0), True)))
        self.assertEqual(len(right(setup, Plan())[1]), 2)

    def test_behind_a_wrong_deed_keepers_go_on(self):
        def work(hand):
            hand.put("c", 1 if hand.cell("c") == 0 else 0)
            return hand.cell("c")

        setup = Setup(World(2, 1, (("c", 0),), ()), (("work", work, ""),), 1)
        told = story_told(setup, Plan(known=True), (("call", "work", ()),) * 4)
        self.assertEqual(told, ((("gives", 1), ("gives", 1), False),) + ((("gives", 1), ("gives", 0), True),) * 3)

    def test_what_is_no_story(self):
        good = ("call", "turn", (0,))
        wrong = [value for value in any_values() if value != ()]
        wrong += [[good], good, (good, None), (good, ["call", "turn", (0,)]), (("change", "d", 0),), (("call", "turn", (2,)),), {good: 1}]
        for value in wrong:
            self.refused(BadStory, value, story_told, self.setup, Plan(), value)
            self.refused(BadStory, value, story_told, story=value, plan=Plan(), setup=self.setup)
            plan = Plan(own=("c",))
            self.refused(BadPlan, plan, story_told, self.setup, plan, value)
            self.refused(BadPlan, plan, shows_right, self.setup, plan, value)

    def test_the_functions_are_as_listed(self):
        listed = {right: ["setup", "plan"], shows_right: ["setup", "plan", "value"], story_told: ["setup", "plan", "story"]}
        for function, names in listed.items():
            self.assertEqual(function.__module__, "tapedonce.judging")
            self.assertEqual([*inspect.signature(function).parameters], names)


class Many(unittest.TestCase, Refusing):
    """More than 300 states that are known as a level begins."""

    world = World(4, 2, (("c", 0), ("d", 0)), (("p", (0, 0)), ("q", (0, 0))))

    def digits(self, hand):
        places = [hand.cell("c"), hand.cell("d"), hand.row("p")[0], hand.row("p")[1], hand.row("q")[0]]
        return [next(n for n in range(4) if bool(place == n)) for place in places]

    def number(self, hand):
        return sum(digit * 4 ** k for k, digit in enumerate(self.digits(hand)))

    def step(self, total):
        """A work without tapes that goes through so many stands, one by one, and then round."""
        def work(hand):
            number = (self.number(hand) + 1) % total
            c, d, one, two, three = [number // 4 ** k % 4 for k in range(5)]
            hand.put("c", c)
            hand.put("d", d)
            hand.row("p")[0], hand.row("p")[1], hand.row("q")[0] = one, two, three
            return hand.fail("long")

        return ("step", work, "")

    def look(self, at):
        """A work that tells otherwise at one stand alone: its tape goes wrong there."""
        return ("look", lambda hand: int(self.number(hand) == at), "")

    def too_many(self, setup):
        for value in (None, ("right", ()), ("wrong", ())):
            self.raises(TooMany, "number", 300, shows_right, setup, Plan(), value)
        self.raises(TooMany, "number", 300, right, setup, Plan())
        plan = Plan(own=("none",))
        self.refused(BadPlan, plan, right, setup, plan)

    def test_300_states_and_301(self):
        for total in (2, 299, 300):
            found = right(Setup(self.world, (self.step(total),), 1), Plan())
            self.assertEqual((found[0], len(found[1])), ("right", total))
            self.assertTrue(shows_right(Setup(self.world, (self.step(total),), 1), Plan(), found))
        for total in (301, 302, 330):
            self.too_many(Setup(self.world, (self.step(total),), 1))

    def test_a_story_that_ends_ahead_of_that_level(self):
        # As the level of so many deeds begins, twice as many states and one are known.
        for at, many in ((1, 3), (147, 149), (148, 150)):
            setup = Setup(self.world, (self.look(at), self.step(330)), 1)
            found = right(setup, Plan())
            self.assertEqual((found[0], len(found[1])), ("wrong", many))
            self.assertTrue(shows_right(setup, Plan(), found))
        self.too_many(Setup(self.world, (self.look(149), self.step(330)), 1))

    def test_levels_that_grow_at_once(self):
        world = World(4, 2, (("c", 0), ("d", 0)), (("p", ()), ("q", ())), ("c", "p"))
        always = ("work", lambda hand: 0, "")
        setup = Setup(world, (("work", lambda hand: hand.fail("long"), ""),), 1)
        self.assertEqual(len(right(setup, Plan())[1]), 84)
        world = World(4, 2, (("c", 0), ("d", 0)), (("p", ()), ("q", ())), ("c", "d", "p", "q"))

        def wrong_behind(hand):
            return int(bool(hand.row("p").has(0)) and bool(hand.row("q").has(0)))

        self.too_many(Setup(world, (always,), 1))
        self.too_many(Setup(world, (("work", wrong_behind, ""),), 1))
        # What goes wrong at the level of one deed is told: as that one begins there are few states.
        soon = Setup(world, (("work", lambda hand, x: 1 if x == 0 else 0, "n"),), 1)
        found = right(soon, Plan())
        self.assertEqual((found[0], len(found[1])), ("wrong", 2))


class Guarantees(unittest.TestCase):

    def test_what_is_right_is_so_behind_every_row_of_deeds(self):
        setup = Setup(World(3, 1, (("c", 0),), (), ("c",)), (("work", lambda hand, x: hand.cell("c") + x if hand.holds(x < 2, "g") else 0, "n"),), 2)
        told, states = right(setup, Plan(("g",)))
        self.assertEqual(told, "right")
        state = first_state(setup)
        for k in range(200):
            deed = setup.deeds[k * k * 7 % len(setup.deeds)]
            found, after = kept(setup, Plan(("g",)), state, deed)
            if deed[0] == "call":
                self.assertEqual((found, after[0]), plainly(setup, state[0], deed))
            self.assertIn(after, states)
            state = after


class Examples(unittest.TestCase):

    def test_a_guard_and_none(self):
        setup = Setup(BARE, (("work", guarded, "n"),), 2)
        told = [right(setup, Plan(("g",))), right(setup, Plan())]
        self.assertEqual([told[0][0], len(told[0][1]), told[1][0], len(told[1][1])], ["right", 5, "wrong", 2])


if __name__ == "__main__":
    unittest.main()
