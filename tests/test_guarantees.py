"""Section 3: the guarantees, over the whole program. What the program tells is held against the program itself."""

import itertools
import random
import unittest

from tapedonce.checks import least_checks, with_checks
from tapedonce.choosing import by_room, cheapest, price_of
from tapedonce.covering import least_lot
from tapedonce.desk import Desk
from tapedonce.doings import beyond, doing_of, doing_plainly, parted
from tapedonce.errors import Fault, NoTape, TooMany
from tapedonce.halls import Hall
from tapedonce.joining import joined
from tapedonce.judging import right, story_told
from tapedonce.keeping import first_state, kept, run_tape
from tapedonce.plain import plainly
from tapedonce.plans import Plan
from tapedonce.tapes import Lot, Tape
from tapedonce.taping import taped
from tapedonce.warming import most_taped, warmed
from tapedonce.worlds import Setup
from tests.drawn import drawn_setups
from tests.keysets import keys_of, told_by
from tests.listhall import drawn_halls, drawn_plan
from tests.scripts import GUARDS, work_of
from tests.tapemaker import TapeMaker
from tests.test_checks import drawn_tapes
from tests.test_choosing import reckoned_plans
from tests.test_covering import drawn_works


def judged(setup, plan):
    """What right tells, None if there are too many states."""
    try:
        found = right(setup, plan)
    except TooMany:
        return None
    return None if found[0] == "right" and len(found[1]) > 40 else found


class Taping(unittest.TestCase):

    def test_a_taping_run_does_what_the_plain_run_does(self):
        faults = 0
        for setup, plan, _ in drawn_setups(range(90)):
            plan = Plan(plan.guards, known=plan.known, held=plan.held)
            for name, _, kinds in setup.works:
                for key in keys_of(setup.world, kinds):
                    found = taped(setup, plan, key[:2], name, key[2])
                    self.assertEqual(found[:2], plainly(setup, key[:2], ("call", name, key[2])))
                    faults += found[0][0] == "faults"
        self.assertGreater(faults, 100)

    def test_own_works_that_do_so(self):
        for setup, plan, _ in drawn_setups(range(60)):
            # Guards of all names, and rooms that are empty: what is called by a keeper is taped, mostly.
            plan = Plan(GUARDS, own=tuple(work[0] for work in setup.works))
            if judged(setup, plan) is not None and judged(setup, plan)[0] == "right":
                for deed in setup.deeds:
                    if deed[0] == "call":
                        found = taped(setup, plan, setup.world.first, deed[1], deed[2])
                        self.assertEqual(found[:2], plainly(setup, setup.world.first, deed))


class Off(unittest.TestCase):

    def test_what_is_held_and_off_leaves_nothing(self):
        off, left = 0, 0
        for seed, (setup, plan, _) in enumerate(drawn_setups(range(120))):
            kinds, works = setup.works[0][2], {name: kinds for name, _, kinds in setup.works}
            tape = TapeMaker(seed, setup.world, kinds, works).tape(4)
            held, not_held = (Plan(plan.guards, known=plan.known, held=held, own=plan.own) for held in (True, False))
            state = kept(setup, held, first_state(setup), setup.deeds[seed % len(setup.deeds)])[1]
            for key in keys_of(setup.world, kinds)[:12]:
                told, after = run_tape(setup, held, (key[:2], state[1]), tape, key[2])
                if told is None:
                    off += 1
                    self.assertEqual(after, (key[:2], state[1]))
                    left += run_tape(setup, not_held, (key[:2], state[1]), tape, key[2])[1] != after
        self.assertGreater(off, 200)
        self.assertGreater(left, 20)


class RightAndWrong(unittest.TestCase):

    def test_behind_every_row_of_deeds(self):
        chance, seen = random.Random(1), {"right": 0, "wrong": 0}
        for setup, plan, _ in drawn_setups(range(90)):
            found = judged(setup, plan)
            if found is None:
                continue
            seen[found[0]] += 1
            if found[0] == "right":
                story = tuple(chance.choice(setup.deeds) for _ in range(60))
                self.assertNotIn(True, [wrong for _, _, wrong in story_told(setup, plan, story)])
                continue
            self.assertTrue(story_told(setup, plan, found[1])[-1][2])
            for story in itertools.islice(itertools.product(setup.deeds, repeat=len(found[1]) - 1), 300):
                self.assertNotIn(True, [wrong for _, _, wrong in story_told(setup, plan, story)])
        self.assertGreater(min(seen.values()), 15)

    def test_warm_and_taped(self):
        """What is told of taping holds in stories by kept: a warm state has all tapes that it wants."""
        for setup, plan, _ in drawn_setups(range(60)):
            try:
                found, most = warmed(setup, plan), most_taped(setup, plan)
            except TooMany:
                continue
            if found[0] == "warm":
                state = first_state(setup)
                for deed in found[1]:
                    state = kept(setup, plan, state, deed)[1]
                for deed in setup.deeds * 2:
                    ahead, state = state, kept(setup, plan, state, deed)[1]
                    self.assertEqual(state[1], ahead[1])
                    self.assertIn(state, found[2])
            # Where tapes are made for ever, nothing gets warm, or some stories never lead there.
            self.assertTrue(found[0] == "warm" or most[0] == "endless")


class Cheapest(unittest.TestCase):

    def test_every_cheaper_plan_is_wrong(self):
        wrong = 0
        for seed, (setup, _, _) in enumerate(drawn_setups(range(50))):
            prices = ((("e", seed % 3), ("g", seed % 4)), seed % 2, seed % 5, ((setup.works[0][0], 1),))
            try:
                found, rooms = cheapest(setup, prices), by_room(setup, prices)
            except TooMany:
                continue
            self.assertEqual(rooms[setup.places - 1], found)
            for plan in reckoned_plans(prices):
                price = price_of(setup, prices, plan)
                if found[0] == "none" or price < found[1]:
                    wrong += 1
                    self.assertEqual(right(setup, plan)[0], "wrong")
            if found[0] == "plan":
                self.assertEqual((right(setup, found[2]), price_of(setup, prices, found[2])), (("right", found[3]), found[1]))
            for plan, story in found[-1]:
                self.assertTrue(story_told(setup, plan, story)[-1][2])
        self.assertGreater(wrong, 50)


class Meaning(unittest.TestCase):

    def test_tapes_with_one_meaning_do_alike(self):
        alike, apart = 0, 0
        for tape in drawn_tapes(range(200)):
            setup = Setup(tape.world, (("work", lambda hand, *values: 0, tape.kinds[:3]),), 1)
            less = [with_checks(tape, least_checks(tape)[0]), with_checks(tape, ())]
            for other in less + [joined(tape, tape)] if len(tape.kinds) == 0 else less:
                key = parted(doing_of(tape), doing_of(other))
                alike += key is None
                apart += key is not None
                for place in keys_of(tape.world, tape.kinds):
                    one, two = (run_tape(setup, Plan(), (place[:2], ((),)), each, place[2]) for each in (tape, other))
                    if key is None:
                        self.assertEqual(one, two)
                    elif place == key:
                        self.assertNotEqual(one, two)
                    elif place < key:
                        self.assertEqual(one, two)
                if other in less:
                    # With fewer checks a tape tells no less than with all.
                    self.assertTrue(doing_of(tape) <= doing_of(other))
                    self.assertIsNone(beyond(doing_of(tape), doing_of(other)))
        self.assertGreater(min(alike, apart), 40)

    def test_a_lot_that_is_told_does_what_the_work_does(self):
        told = 0
        for world, kinds, script, plan in drawn_works(range(100)):
            work = work_of(world.size, script)
            try:
                found = least_lot(world, kinds, work, plan)
            except (TooMany, NoTape):
                continue
            if found[0] == "lot":
                told += 1
                lot, plain = Lot(*found[1]), doing_plainly(world, kinds, work)
                self.assertEqual(doing_of(lot), plain)
                for key in keys_of(world, kinds):
                    self.assertEqual(lot(*key), plain[key])
                    tapes = [told_by(tape, key) for tape in found[1]]
                    self.assertEqual(next(what for what in tapes if what is not None), plain[key])
        self.assertGreater(told, 10)


class Halls(unittest.TestCase):

    def test_halls_do_what_the_functions_tell(self):
        for seed, (setup, plan, _) in enumerate(drawn_halls(range(60))):
            chance, hall, state, wrong = random.Random(seed), Hall(setup, plan), first_state(setup), []
            for at in range(20):
                deed = chance.choice(setup.deeds)
                told, after = kept(setup, plan, state, deed)
                if deed[0] == "call":
                    plain = plainly(setup, state[0], deed)
                    wrong += [at] if plain != (told, after[0]) else []
                    try:
                        found = ("gives", hall.call(deed[1], *deed[2]))
                    except Fault as fault:
                        found = ("faults", fault.words)
                    self.assertEqual(found, told)
                else:
                    hall.change(deed[1], deed[2])
                state = after
                self.assertEqual((hall.state, hall.astray), (state, tuple(wrong)))
            for (name, _, kinds), texts in zip(setup.works, state[1], strict=True):
                self.assertEqual(hall.tapes_of(name), tuple(Tape(setup.world, kinds, *text) for text in texts))
                for tape in hall.tapes_of(name):
                    self.assertEqual(Tape.read(setup.world, tape.written()), tape)

    def test_a_right_plan_never_goes_astray(self):
        seen = 0
        for seed, (setup, plan, _) in enumerate(drawn_halls(range(80))):
            found = judged(setup, plan)
            if found is not None and found[0] == "right":
                chance, hall = random.Random(seed), Desk(setup, plan).hall
                for _ in range(40):
                    deed = chance.choice(setup.deeds)
                    with self.subTest(deed=deed):
                        if deed[0] == "change":
                            hall.change(deed[1], deed[2])
                        else:
                            hall.tried(lambda same: self.called(same, deed), keep=True)
                    self.assertIn(hall.state, found[1])
                self.assertEqual(hall.astray, ())
                seen += 1
        self.assertGreater(seen, 20)

    def called(self, hall, deed):
        try:
            return hall.call(deed[1], *deed[2])
        except Fault:
            return None

    def test_undone_deeds_and_trials_leave_nothing(self):
        for seed, (setup, plan, _) in enumerate(drawn_halls(range(60))):
            chance, hall, states = random.Random(seed), Hall(setup, plan), []
            for _ in range(12):
                states.append((hall.state, hall.plan, hall.space, hall.journal, hall.astray))
                with hall.trial():
                    self.called(hall, chance.choice([deed for deed in setup.deeds if deed[0] == "call"]))
                    hall.plan, hall.space = drawn_plan(chance, setup), chance.randrange(3)
                self.assertEqual(states[-1], (hall.state, hall.plan, hall.space, hall.journal, hall.astray))
                deed = chance.choice(setup.deeds)
                hall.change(deed[1], deed[2]) if deed[0] == "change" else self.called(hall, deed)
            self.assertTrue(Hall.read(setup, plan, hall.journal) == hall)
            for state in states[::-1]:
                hall.undo()
                self.assertEqual(state, (hall.state, hall.plan, hall.space, hall.journal, hall.astray))


if __name__ == "__main__":
    unittest.main()
