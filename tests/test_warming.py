"""Section 13: how often works are taped."""

import inspect
import itertools
import unittest

from tapedonce.errors import BadPlan, TooMany
from tapedonce.judging import right
from tapedonce.keeping import first_state, kept
from tapedonce.plans import Plan
from tapedonce.warming import most_taped, shows_most_taped, shows_warmed, warmed
from tapedonce.worlds import Setup, World
from tests.drawn import drawn_setups
from tests.making import Refusing
from tests.values import any_values

BARE = World(2, 1, (), ())


def guarded(hand, x):
    return [0, 1][int(hand.holds(x == 0, "g"))]


def heights_of(reckoned, states):
    """For each state the most deeds that tape in stories from there, by trying ever longer stories; None if endless."""
    best = {state: 0 for state in states}
    # Without a ring no more deeds tape than there are states; a ring tapes once more in as many deeds.
    for _ in range(len(states) * (len(states) + 1)):
        longer = {}
        for state in states:
            ways = [reckoned.deed(state, deed) for deed in reckoned.setup.deeds]
            longer[state] = max([best[after] + tapes for _, after, tapes in ways] + [best[state]])
        if longer == best:
            return best
        if max(longer.values()) > len(states):
            return None
        best = longer
    raise AssertionError("neither endless nor not")


def reached(reckoned, state):
    """All states to which deeds lead from one, in levels."""
    levels, met = [[state]], [state]
    while levels[-1]:
        levels.append(reckoned.behind(levels[-1], met))
        met = met + levels[-1]
    return levels[:-1]


def tapes_somewhere(reckoned, states):
    return any(reckoned.deed(state, deed)[2] for state in states for deed in reckoned.setup.deeds)


class Searched(unittest.TestCase, Refusing):
    """Setups made by chance, beside searches of the tests' own."""

    def drawn(self, seeds=range(140), most=24):
        for setup, plan, reckoned in drawn_setups(seeds):
            states = reckoned.states(most)
            if states is not None:
                yield setup, plan, reckoned, states

    def test_most_taped(self):
        seen = {"most": 0, "endless": 0}
        heights_seen = set()
        for setup, plan, reckoned, states in self.drawn():
            heights, found = heights_of(reckoned, states), most_taped(setup, plan)
            self.assertIs(found.__class__, tuple)
            seen[found[0]] += 1
            self.assertTrue(shows_most_taped(setup, plan, found))
            self.assertEqual(found, most_taped(plan=plan, setup=setup))
            if heights is None:
                self.check_endless(setup, plan, reckoned, found)
            else:
                self.check_most(setup, plan, reckoned, found, heights)
                heights_seen.add(found[1])
        self.assertGreater(min(seen.values()), 10)
        self.assertGreater(len(heights_seen), 3)

    def check_endless(self, setup, plan, reckoned, found):
        self.assertEqual((found[0], len(found)), ("endless", 3))
        _, story, ring = found
        state, _ = reckoned.walk(reckoned.first, story)
        back, told = reckoned.walk(state, ring)
        self.assertEqual(back, state)
        self.assertIn(True, told)
        self.assertTrue(shows_most_taped(setup, plan, ("endless", story + ring, ring + ring)))
        for value in (("endless", story, ()), ("endless", story, list(ring)), ("endless", list(story), ring), ("most", story, ring)):
            self.assertFalse(shows_most_taped(setup, plan, value))
        for many in (0, 1, 2):
            for other in itertools.islice(itertools.product(setup.deeds, repeat=many), 12):
                back, told = reckoned.walk(state, other)
                self.assertEqual(shows_most_taped(setup, plan, ("endless", story, other)), back == state and True in told)

    def check_most(self, setup, plan, reckoned, found, heights):
        self.assertEqual((found[0], len(found)), ("most", 4))
        _, many, story, rows = found
        self.assertEqual(many, heights[reckoned.first])
        self.assertEqual(rows, tuple(sorted(heights.items())))
        _, told = reckoned.walk(reckoned.first, story)
        self.assertEqual(told.count(True), many)
        self.assertTrue(told[-1] if many else story == ())
        for at in range(min(len(story), 3) + 1):
            self.check_story(setup, plan, reckoned, found, story[:at] + story[at + 1:])
        for deed in setup.deeds[::3]:
            self.check_story(setup, plan, reckoned, found, (deed,) + story)
            self.check_story(setup, plan, reckoned, found, story + (deed,))
            self.check_story(setup, plan, reckoned, found, story[:-1] + (deed,))
        self.check_story(setup, plan, reckoned, found, ())

    def check_story(self, setup, plan, reckoned, found, story):
        told = reckoned.walk(reckoned.first, story)[1]
        good = told.count(True) == found[1] and (told[-1] if told else found[1] == 0)
        self.assertIs(shows_most_taped(setup, plan, found[:2] + (story,) + found[3:]), good)

    def test_warmed(self):
        seen, lengths = {"warm": 0, "never": 0}, set()
        for setup, plan, reckoned, states in self.drawn():
            found = warmed(setup, plan)
            self.assertIs(found.__class__, tuple)
            seen[found[0]] += 1
            self.assertTrue(shows_warmed(setup, plan, found))
            self.assertEqual(found, warmed(plan=plan, setup=setup))
            cold = [state for state in states if tapes_somewhere(reckoned, itertools.chain(*reached(reckoned, state)))]
            if len(cold) == len(states):
                self.check_never(setup, plan, reckoned, states, found)
            else:
                self.check_warm(setup, plan, reckoned, cold, found)
                lengths.add(len(found[1]))
        self.assertGreater(min(seen.values()), 10)
        self.assertGreater(len(lengths), 2)

    def check_warm(self, setup, plan, reckoned, cold, found):
        self.assertEqual((found[0], len(found)), ("warm", 3))
        _, story, states = found
        many = next(at for at, level in enumerate(reached(reckoned, reckoned.first)) if any(state not in cold for state in level))
        self.assertEqual(len(story), many)
        for other in itertools.islice(itertools.product(setup.deeds, repeat=many), 25):
            state = reckoned.walk(reckoned.first, other)[0]
            right_states = tuple(sorted(itertools.chain(*reached(reckoned, state))))
            if other == story:
                self.assertEqual(states, right_states)
            self.assertIs(shows_warmed(setup, plan, ("warm", other, right_states)), state not in cold)
            self.assertIs(shows_warmed(setup, plan, ("warm", other, states)), state not in cold and right_states == states)
        state = reckoned.walk(reckoned.first, story)[0]
        self.assertNotIn(state, cold)
        self.assertEqual(states, tuple(sorted(itertools.chain(*reached(reckoned, state)))))
        for deed in setup.deeds:
            self.assertFalse(shows_warmed(setup, plan, ("warm", story + (deed,), states)))
            self.assertFalse(shows_warmed(setup, plan, ("warm", (deed,) + story, states)))
        for near in (states[:-1], states + states[-1:], list(states), states[::-1] + states[:1], None):
            self.assertFalse(shows_warmed(setup, plan, ("warm", story, near)))

    def check_never(self, setup, plan, reckoned, states, found):
        self.assertEqual((found[0], len(found)), ("never", 2))
        self.assertEqual([row[0] for row in found[1]], states)
        for at, (state, story) in enumerate(found[1]):
            levels = reached(reckoned, state)
            many = next(k for k, level in enumerate(levels) if tapes_somewhere(reckoned, level)) + 1
            self.assertEqual(len(story), many)
            self.assertTrue(reckoned.walk(state, story)[1][-1])
            # Each look at another value goes through all states: a few do.
            for deed in setup.deeds[:2] if at in (0, len(states) - 1) else ():
                for other in (story[:-1] + (deed,), story + (deed,), (deed,) + story):
                    good = len(other) == many and reckoned.walk(state, other)[1][-1]
                    rows = found[1][:at] + ((state, other),) + found[1][at + 1:]
                    self.assertIs(shows_warmed(setup, plan, ("never", rows)), good)
        for near in (found[1][:-1], found[1] + found[1][-1:], list(found[1]), found[1][::-1] + found[1][:1], None, ()):
            self.assertFalse(shows_warmed(setup, plan, ("never", near)))


class Deeds(unittest.TestCase):
    """Which deeds tape."""

    def most(self, works, plan, world=BARE, room=2):
        return most_taped(Setup(world, works, room), plan)

    def test_a_work_without_a_tape_is_taped_each_time(self):
        found = self.most((("work", lambda hand: hand.fail("long"), ""),), Plan())
        self.assertEqual(found, ("endless", (), (("call", "work", ()),)))

    def test_nothing_to_tape(self):
        world = World(2, 1, (("c", 0),), (), ("c",))
        # The tape is never off: it is made once.
        found = self.most((("work", lambda hand: 0, ""),), Plan(), world)
        self.assertEqual(found[:3], ("most", 1, (("call", "work", ()),)))
        self.assertEqual([height for _, height in found[3]], [1, 0, 1, 0])

    def test_an_inner_one(self):
        works = (("inner", guarded, "n"), ("outer", lambda hand, x: hand.call("inner", x), "n"))
        # Run on the outer's tape it is no run of its own.
        self.assertEqual(self.most(works, Plan(("g",)))[1], 4)
        found = self.most(works, Plan(("g",), own=("inner",)))
        # The outer's tape is there once, and behind this the inner one is taped by itself.
        setup, plan = Setup(BARE, works, 2), Plan(("g",), own=("inner",))
        one = kept(setup, plan, first_state(setup), ("call", "outer", (0,)))[1]
        two = kept(setup, plan, one, ("call", "outer", (1,)))[1]
        self.assertEqual([len(texts) for texts in one[1]], [1, 1])
        self.assertEqual([len(texts) for texts in two[1]], [2, 1])
        self.assertEqual(found[1], 3)

    def test_within_a_run_that_is_off(self):
        def outer(hand, x):
            hand.call("inner")
            return int(hand.holds(x == 0, "g"))

        works = (("inner", lambda hand: 0, ""), ("outer", outer, "n"))
        setup, plan = Setup(BARE, works, 1), Plan(("g",), own=("inner",))
        tape = kept(setup, plan, first_state(setup), ("call", "outer", (0,)))[1][1][1]
        self.assertEqual([step[0] for step in tape[0][0]], ["call", "guard"])
        told = warmed(setup, plan)
        self.assertEqual(told[0], "never")
        for state, story in told[1]:
            self.assertEqual(len(story), 1)

    def test_a_long_way_to_what_tapes(self):
        def look(hand):
            # At 3 it has no tape, and elsewhere one that is off at 3.
            return hand.fail("long") if hand.holds(hand.cell("c") == 3, "g") else 0

        def step(hand):
            hand.put("c", hand.cell("c") + 1)
            return 0

        setup, plan = Setup(World(4, 1, (("c", 0),), ()), (("look", look, ""), ("step", step, "")), 1), Plan(("g",))
        found = warmed(setup, plan)
        self.assertEqual(found[0], "never")
        ways = {state: [deed[1] for deed in story] for state, story in found[1]}
        full = [state for state in ways if all(state[1])]
        self.assertEqual([ways[state] for state in sorted(full)], [["step"] * 3 + ["look"], ["step"] * 2 + ["look"], ["step", "look"], ["look"]])
        self.assertEqual({len(ways[state]) for state in ways if state not in full}, {1})

    def test_wrong_deeds_go_on(self):
        setup = Setup(World(2, 1, (("c", 0),), ()), (("one", lambda hand: hand.put("c", 1 if hand.cell("c") == 0 else 0) or 0, ""), ("two", lambda hand: 0 if hand.cell("c") == 0 else 1, "")), 1)
        self.assertEqual(right(setup, Plan())[0], "wrong")
        self.assertEqual(most_taped(setup, Plan())[1], 2)
        self.assertEqual(len(most_taped(setup, Plan())[3]), 5)
        self.assertEqual(warmed(setup, Plan())[0], "warm")

    def test_a_story_ends_with_a_deed_that_tapes(self):
        world = World(2, 1, (("c", 0),), (), ("c",))

        def work(hand):
            if hand.holds(hand.cell("c") == 0, "g"):
                return 0
            return 1

        setup = Setup(world, (("work", work, ""),), 2)
        found = most_taped(setup, Plan(("g",)))
        self.assertEqual(found[:2], ("most", 2))
        self.assertEqual(found[2], (("call", "work", ()), ("change", "c", 1), ("call", "work", ())))
        for near in (found[2] + (("change", "c", 0),), found[2] + (("call", "work", ()),), found[2][:1], ()):
            self.assertFalse(shows_most_taped(setup, Plan(("g",)), found[:2] + (near,) + found[3:]))
        longer = (("change", "c", 1), ("change", "c", 0)) + found[2]
        self.assertTrue(shows_most_taped(setup, Plan(("g",)), found[:2] + (longer,) + found[3:]))


class Near(unittest.TestCase, Refusing):
    """Values that are no results, and what is refused."""

    one = Setup(BARE, (("work", guarded, "n"),), 1)
    two = Setup(BARE, (("work", guarded, "n"),), 2)
    plan = Plan(("g",))

    def check_not(self, shows, setup, values):
        for value in values:
            self.assertIs(shows(setup, self.plan, value), False)

    def test_near_most(self):
        found = most_taped(self.two, self.plan)
        _, many, story, rows = found
        near = any_values() + [list(found), found[:3], found + ((),), ("Most",) + found[1:], (b"most",) + found[1:]]
        near += [("most", value, story, rows) for value in any_values() + [1, 3] if not (type(value) is int and value == 2)]
        near += [("most", many, value, rows) for value in any_values() + [list(story), story[:1], story * 2, (story[0], story[0])]]
        near += [("most", many, story, value) for value in any_values() + [list(rows), rows[:-1], rows[::-1], rows + rows[:1]]]
        near += [("most", many, story, rows[:k] + (row,) + rows[k + 1:]) for k in range(len(rows)) for row in (
            list(rows[k]), rows[k][:1], (rows[k][0], rows[k][1] + 1), (rows[k][0], bool(rows[k][1])), (None, rows[k][1]))]
        near += [("endless", story, story), ("endless", (), ())]
        self.check_not(shows_most_taped, self.two, near)
        self.assertIs(shows_most_taped(value=found, plan=self.plan, setup=self.two), True)
        turned = (("call", "work", (1,)), ("call", "work", (0,)))
        self.assertIs(shows_most_taped(self.two, self.plan, ("most", many, turned, rows)), True)

    def test_near_endless(self):
        found = most_taped(self.one, self.plan)
        _, story, ring = found
        near = any_values() + [list(found), found[:2], found + ((),), ("Endless",) + found[1:], (b"endless",) + found[1:]]
        near += [("endless", value, ring) for value in any_values() + [list(story)] if value != ()]
        near += [("endless", story, value) for value in any_values() + [list(ring), ring[:1]]]
        near += [("endless", (("call", "work", (2,)),), ring), ("endless", story, ring + (("call", "work", (True,)),))]
        self.check_not(shows_most_taped, self.one, near)
        self.assertIs(shows_most_taped(value=found, plan=self.plan, setup=self.one), True)

    def test_near_warm(self):
        found = warmed(self.two, self.plan)
        _, story, states = found
        near = any_values() + [list(found), found[:2], found + ((),), ("Warm",) + found[1:], (b"warm",) + found[1:], ("never", story)]
        near += [("warm", value, states) for value in any_values() + [list(story), story[::-1], story[:1], (story[0], story[0])]]
        near += [("warm", story, value) for value in any_values() + [list(states), states * 2, (list(states[0]),)]]
        self.check_not(shows_warmed, self.two, near)
        self.assertIs(shows_warmed(value=found, plan=self.plan, setup=self.two), True)

    def test_near_never(self):
        found = warmed(self.one, self.plan)
        rows = found[1]
        near = any_values() + [list(found), found[:1], found + ((),), ("Never",) + found[1:], (b"never",) + found[1:], ("warm", rows)]
        near += [("never", value) for value in any_values() + [list(rows), rows[:-1], rows[::-1], rows + rows[:1]]]
        for k, (state, story) in enumerate(rows):
            rest = [list(rows[k]), (state,), (state, story, ()), (None, story), (list(state), story), (state, ()), (state, story + story)]
            rest += [(state, value) for value in any_values() + [list(story)]]
            near += [("never", rows[:k] + (row,) + rows[k + 1:]) for row in rest]
        self.check_not(shows_warmed, self.one, near)
        self.assertIs(shows_warmed(value=found, plan=self.plan, setup=self.one), True)

    def test_plans_that_do_not_fit(self):
        plan = Plan(own=("other",))
        self.refused(BadPlan, plan, most_taped, self.one, plan)
        self.refused(BadPlan, plan, warmed, setup=self.one, plan=plan)
        for value in (None, most_taped(self.one, self.plan), warmed(self.one, self.plan)):
            self.refused(BadPlan, plan, shows_most_taped, self.one, plan, value)
            self.refused(BadPlan, plan, shows_warmed, self.one, plan, value)

    def test_the_functions_are_as_listed(self):
        for function in (most_taped, warmed):
            self.assertEqual([*inspect.signature(function).parameters], ["setup", "plan"])
        for function in (shows_most_taped, shows_warmed):
            self.assertEqual([*inspect.signature(function).parameters], ["setup", "plan", "value"])
        for function in (most_taped, warmed, shows_most_taped, shows_warmed):
            self.assertEqual(function.__module__, "tapedonce.warming")


class Many(unittest.TestCase, Refusing):

    world = World(4, 2, (("c", 0), ("d", 0)), (("p", (0, 0)), ("q", (0, 0))))

    def number(self, hand):
        places = [hand.cell("c"), hand.cell("d"), hand.row("p")[0], hand.row("p")[1], hand.row("q")[0]]
        return sum(next(n for n in range(4) if bool(place == n)) * 4 ** k for k, place in enumerate(places))

    def steps(self, total):
        """A setup of a work without tapes that goes through so many stands, one by one, and then round."""
        def work(hand):
            number = (self.number(hand) + 1) % total
            c, d, one, two, three = [number // 4 ** k % 4 for k in range(5)]
            hand.put("c", c)
            hand.put("d", d)
            hand.row("p")[0], hand.row("p")[1], hand.row("q")[0] = one, two, three
            return hand.fail("long")

        # A work whose one tape goes wrong at all stands but one: wrong deeds go on like others.
        return Setup(self.world, (("step", work, ""),), 1)

    def test_300_states_and_301(self):
        for total in (1, 299, 300):
            setup = self.steps(total)
            self.assertEqual(len(warmed(setup, Plan())[1]), total)
            found = most_taped(setup, Plan())
            self.assertEqual(found[0], "endless")
            self.assertTrue(shows_most_taped(setup, Plan(), found))
            self.assertTrue(shows_warmed(setup, Plan(), warmed(setup, Plan())))
        for total in (301, 302, 330):
            setup = self.steps(total)
            for function in (most_taped, warmed):
                self.raises(TooMany, "number", 300, function, setup, Plan())
            for value in (None, found, ("warm", (), ())):
                self.raises(TooMany, "number", 300, shows_most_taped, setup, Plan(), value)
                self.raises(TooMany, "number", 300, shows_warmed, setup, Plan(), value)

    def test_what_goes_wrong_soon_goes_on(self):
        """right ends at a wrong deed of the first levels; these go on to all states."""
        def look(hand):
            return int(self.number(hand) == 1)

        setup = self.steps(330)
        setup = Setup(self.world, (("look", look, ""),) + setup.works, 1)
        self.assertEqual((right(setup, Plan())[0], len(right(setup, Plan())[1])), ("wrong", 3))
        for function in (most_taped, warmed):
            self.raises(TooMany, "number", 300, function, setup, Plan())

    def test_levels_that_grow_at_once(self):
        rows = (("p", ()), ("q", ()))
        world = World(4, 2, (("c", 0), ("d", 0)), rows, ("c", "d", "p", "q"))
        self.raises(TooMany, "number", 300, warmed, Setup(world, (("work", lambda hand: 0, ""),), 1), Plan())
        world = World(3, 2, (("c", 0),), rows[:1], ("c", "p"))
        found = most_taped(Setup(world, (("work", lambda hand: 0, ""),), 1), Plan())
        self.assertEqual((found[:2], len(found[3])), (("most", 1), 2 * 3 * 13))


class Examples(unittest.TestCase):

    def test_a_guard_in_two_rooms(self):
        world, works = World(2, 1, (), ()), (("work", lambda hand, x: [0, 1][int(hand.holds(x == 0, "g"))], "n"),)
        one, two = Setup(world, works, 1), Setup(world, works, 2)
        told = [most_taped(two, Plan(("g",)))[:2], len(warmed(two, Plan(("g",)))[1]), most_taped(one, Plan(("g",)))[0], warmed(one, Plan(("g",)))[0]]
        self.assertEqual(told, [("most", 2), 2, "endless", "never"])


if __name__ == "__main__":
    unittest.main()
