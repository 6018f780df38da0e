"""Section 17: halls."""

import inspect
import random
import unittest

from tapedonce.errors import (
    BadLine, BadPlan, BadRoom, BadThing, BadValues, Fault, NoName, NothingToRedo, NothingToUndo, NoWork,
)
from tapedonce.halls import Hall, set_plan, set_space
from tapedonce.keeping import first_state, kept
from tapedonce.numbers import Number
from tapedonce.plans import Plan
from tapedonce.tapes import Tape
from tapedonce.worlds import Setup, World
from tests.listhall import ListHall, drawn_halls, drawn_plan
from tests.making import Refusing
from tests.values import any_values, is_plain

BARE = World(2, 1, (), ())
WORLD = World(3, 2, (("c", 1), ("d", 0)), (("p", (1,)), ("q", ())), ("c", "p"))


def guarded(hand, x):
    return [0, 1][int(hand.holds(x == 0, "g"))]


def shares(hand, x, row):
    """Changes much, and faults for 0."""
    hand.put("c", x)
    row[0] = x
    return 2 // x


WORKS = (("guarded", guarded, "n"), ("shares", shares, "nr"))


def hall_of(plan=None, world=WORLD, works=WORKS, room=2):
    return Hall(Setup(world, works, room), plan or Plan(("g",)))


class Halls(unittest.TestCase, Refusing):
    """What many tests of halls look at."""

    def content(self, hall):
        return hall.state, hall.plan, hall.space, hall.many, hall.astray, hall.journal

    def check_same(self, hall, known):
        """That a hall is as a list is."""
        self.assertEqual(self.content(hall), (known.state, known.plan, known.space, len(known.done) - 1, known.astray(), known.journal()))
        for (name, _, kinds), texts in zip(hall.setup.works, known.state[1], strict=True):
            self.assertEqual(hall.tapes_of(name), tuple(Tape(hall.setup.world, kinds, *text) for text in texts))

    def check_all(self, hall, known):
        """Likewise, also in what can be undone and done again."""
        self.check_same(hall, known)
        twin, other = hall.copy(), known.twin()
        for _ in other.done[1:]:
            twin.undo()
            other.undo()
            self.check_same(twin, other)
        self.raises(NothingToUndo, "", None, twin.undo)
        for _ in list(other.undone):
            twin.redo()
            other.redo()
            self.check_same(twin, other)
        self.raises(NothingToRedo, "", None, twin.redo)
        self.check_same(hall, known)

    def unchanged(self, hall, act, *values):
        """Does what is refused, and looks whether all is as it was."""
        ahead, past = self.content(hall), hall.copy()
        act(*values)
        self.assertEqual(self.content(hall), ahead)
        self.same_past(hall, past)

    def same_past(self, hall, past):
        one, other = hall.copy(), past.copy()
        for act, error in (("undo", NothingToUndo), ("redo", NothingToRedo)):
            while True:
                try:
                    getattr(one, act)()
                except error:
                    self.raises(error, "", None, getattr(other, act))
                    break
                getattr(other, act)()
                self.assertEqual(self.content(one), self.content(other))


class Driven(Halls):
    """Halls that are led through deeds by chance, beside a list."""

    def setUp(self):
        self.seen = {}

    def see(self, word):
        self.seen[word] = self.seen.get(word, 0) + 1

    def one_deed(self, chance, hall, known, depth):
        setup, way = hall.setup, chance.randrange(24)
        if way < 10:
            self.call_or_change(chance, hall, known)
        elif way < 12:
            plan = drawn_plan(chance, setup)
            if way == 10:
                hall.plan = plan
            else:
                self.assertIsNone(set_plan(hall, plan))
            known.take_plan(plan)
        elif way < 14:
            space = chance.randrange(3)
            if way == 12:
                hall.space = space
            else:
                self.assertIsNone(set_space(hall, space))
            known.take_space(space)
        elif way < 17:
            self.undo(hall, known)
        elif way < 19:
            self.redo(hall, known)
        elif way < 21 and depth < 3:
            self.in_trial(chance, hall, known, depth)
        elif way == 21 and depth < 3:
            self.in_tried(chance, hall, known, depth)
        elif way == 22:
            self.check_copy(chance, hall, known)
        else:
            self.refuse(chance, hall)

    def call_or_change(self, chance, hall, known):
        deed = chance.choice(hall.setup.deeds)
        told = known.do(deed)
        if deed[0] == "change":
            self.assertIsNone(hall.change(deed[1], deed[2]))
        elif told[0] == "gives":
            self.assertEqual(hall.call(deed[1], *deed[2]), told[1])
            self.see("gives")
        else:
            self.raises(Fault, "words", told[1], hall.call, deed[1], *deed[2])
            self.see("faults")
        self.see("wrong" if known.done[-1][1] else deed[0])

    def undo(self, hall, known):
        if len(known.done) == 1:
            self.raises(NothingToUndo, "", None, hall.undo)
        else:
            self.assertIsNone(hall.undo())
            known.undo()
            self.see("undo")

    def redo(self, hall, known):
        if not known.undone:
            self.raises(NothingToRedo, "", None, hall.redo)
        else:
            self.assertIsNone(hall.redo())
            known.redo()
            self.see("redo")

    def deeds(self, chance, hall, known, depth):
        for _ in range(chance.randrange(6)):
            self.one_deed(chance, hall, known, depth)
            self.check_same(hall, known)

    def in_trial(self, chance, hall, known, depth):
        ahead, keep, fails = known.snapshot(), chance.randrange(2), chance.randrange(3) == 0
        try:
            with hall.trial() as trial:
                self.assertIs(trial.hall, hall)
                if keep and chance.randrange(2):
                    self.assertIsNone(trial.keep())
                    keep = 2
                self.deeds(chance, hall, known, depth + 1)
                if keep == 1:
                    trial.keep()
                    self.deeds(chance, trial.hall, known, depth + 1)
                if fails:
                    raise KeyError("left")
        except KeyError:
            self.assertTrue(fails)
        else:
            self.assertFalse(fails)
        if fails or not keep:
            known.lay(ahead)
        self.see("kept" if keep and not fails else "not kept")
        self.check_all(hall, known)

    def in_tried(self, chance, hall, known, depth):
        ahead, keep = known.snapshot(), chance.choice((True, False, 1, None, "yes", [True]))
        told = object()

        def look(given):
            self.assertIs(given, hall)
            self.deeds(chance, given, known, depth + 1)
            return told

        self.assertIs(hall.tried(look, keep=keep), told)
        if keep is not True:
            known.lay(ahead)
        self.see("tried and kept" if keep is True else "tried")
        self.check_all(hall, known)

    def check_copy(self, chance, hall, known):
        twin, other = hall.copy(), known.twin()
        self.assertTrue(twin == hall)
        self.assertIs(twin.setup, hall.setup)
        self.deeds(chance, twin, other, 3)
        self.check_same(hall, known)
        if known.plan == other.plan and known.space == other.space:
            self.assertEqual(twin == hall, known.state == other.state)
        self.see("copy")

    def refuse(self, chance, hall):
        acts = [
            lambda: self.refused(NoWork, "none", hall.call, "none"), lambda: self.raises(BadValues, "value", (9,), hall.call, hall.setup.works[0][0], 9),
            lambda: self.refused(NoName, "none", hall.change, "none", 0), lambda: self.refused(BadThing, None, hall.change, hall.setup.world.loose[0], None),
            lambda: self.refused(BadPlan, "g", set_plan, hall, "g"), lambda: self.refused(BadRoom, 3, set_space, hall, 3),
        ]
        self.unchanged(hall, chance.choice(acts))

    def test_by_chance(self):
        for seed, (setup, plan, known) in enumerate(drawn_halls(range(450))):
            chance, hall = random.Random(seed), Hall(setup, plan)
            self.check_all(hall, known)
            for _ in range(14):
                self.one_deed(chance, hall, known, 0)
                self.check_same(hall, known)
            self.check_all(hall, known)
            self.check_read(hall, plan)
        self.assertGreater(min(self.seen.values()), 20, self.seen)
        self.assertEqual(len(self.seen), 12, self.seen)

    def check_read(self, hall, plan):
        """What is written is read back."""
        again = Hall.read(hall.setup, plan, hall.journal)
        self.assertTrue(again == hall)
        self.assertEqual(self.content(again), self.content(hall))
        past = hall.copy()
        while past.many:
            past.undo()
            again.undo()
            self.assertEqual(self.content(again), self.content(past))
        self.raises(NothingToUndo, "", None, again.undo)


class Calls(Halls):
    """Deeds, one by one."""

    def test_a_new_hall(self):
        setup, plan = Setup(WORLD, WORKS, 2), Plan(("g",))
        hall = Hall(plan=plan, setup=setup)
        self.assertIs(hall.setup, setup)
        self.assertEqual(self.content(hall), (first_state(setup), plan, 2, 0, (), ()))
        self.assertEqual(hall_of(room=1).space, 1)
        self.assertEqual((hall.tapes_of("guarded"), hall.tapes_of(name="shares")), ((), ()))

    def test_plans_that_are_none_or_do_not_fit(self):
        setup = Setup(WORLD, WORKS, 2)
        for value in any_values() + [Plan, Plan(own=("other",)), Plan(own=("guarded", "other")), ("g",), WORLD]:
            self.refused(BadPlan, value, Hall, setup, value)
            self.refused(BadPlan, value, Hall, plan=value, setup=setup)
            self.refused(BadPlan, value, Hall.read, setup, value, None)
            hall = hall_of()
            hall.call("guarded", 0)
            self.unchanged(hall, self.refused, BadPlan, value, set_plan, hall, value)
            self.unchanged(hall, self.refused, BadPlan, value, lambda: setattr(hall, "plan", value))

    def test_a_call_that_faults_is_done(self):
        hall = hall_of()
        self.raises(Fault, "words", ("zero",), hall.call, "shares", 0, "p")
        self.assertEqual((hall.state[0], hall.many, hall.journal), (((0, 0), ((0,), ())), 1, ("call shares 0 p",)))
        self.raises(Fault, "words", ("index",), hall.call, "shares", 2, "q")
        self.assertEqual(hall.state[0], ((2, 0), ((0,), ())))
        self.assertEqual(hall.call("shares", 1, "p"), 2)
        hall.undo()
        hall.undo()
        self.assertEqual(hall.state[0], ((0, 0), ((0,), ())))

    def test_works_that_there_are_not(self):
        hall = hall_of()
        hall.call("guarded", 0)
        for value in any_values() + ["c", "p", "guard", ("guarded",), guarded]:
            self.unchanged(hall, self.refused, NoWork, value, hall.call, value)
            self.unchanged(hall, self.refused, NoWork, value, hall.call, value, 0)
            self.refused(NoWork, value, hall.tapes_of, value)
            self.refused(NoWork, value, lambda name: hall.tapes_of(name=name), value)

    def test_values_that_are_none(self):
        hall = hall_of()
        hall.call("guarded", 1)
        for values in [(), (0, 0), ("p",), (3,), (-1,), (True,), (Number(3, 0),), ((0,),)] + [(value,) for value in any_values()]:
            if values not in ((0,), (1,), (2,)) or not is_plain(values[0]):
                self.unchanged(hall, self.raises, BadValues, "value", values, hall.call, "guarded", *values)
        for values in ((0,), ("p", 0), (0, "c"), (0, 0), (0, "p", 0), (0, None), (0, ("p",)), (0, "")):
            self.unchanged(hall, self.raises, BadValues, "value", values, hall.call, "shares", *values)

    def test_changes(self):
        hall = hall_of()
        hall.call("guarded", 0)
        tapes = hall.tapes_of("guarded")
        for name, thing, stand in (("c", 2, ((2, 0), ((1,), ()))), ("p", (), ((2, 0), ((), ()))), ("p", (0, 2), ((2, 0), ((0, 2), ()))), ("c", 2, ((2, 0), ((0, 2), ())))):
            self.assertIsNone(hall.change(thing=thing, name=name))
            self.assertEqual(hall.state[0], stand)
            self.assertEqual(hall.tapes_of("guarded"), tapes)
        self.assertEqual(hall.journal[1:], ("change c 2", "change p -", "change p 0,2", "change c 2"))
        self.assertEqual((hall.many, hall.astray), (5, ()))

    def test_what_is_not_loose_and_what_is_no_thing(self):
        hall = hall_of()
        hall.change("c", 0)
        for value in any_values() + ["d", "q", "guarded", "cp", ("c",), ["c"]]:
            self.unchanged(hall, self.refused, NoName, value, hall.change, value, None)
            self.unchanged(hall, self.refused, NoName, value, hall.change, value, 0)
        for value in any_values() + [3, -1, (0,), "1", (0, 0)]:
            if not (is_plain(value) and 0 <= value < 3):
                self.unchanged(hall, self.refused, BadThing, value, hall.change, "c", value)
        for value in any_values() + [(3,), (True,), [0], (0, 0, 0), 0, (0, None), ((0,),)]:
            if value not in ((), (0,), (1, 0), (2,)) or not isinstance(value, tuple) or not all(is_plain(part) for part in value):
                self.unchanged(hall, self.refused, BadThing, value, hall.change, "p", value)

    def test_another_plan(self):
        hall = hall_of(Plan())
        hall.call("guarded", 0)
        self.assertEqual(len(hall.tapes_of("guarded")), 1)
        self.assertEqual(hall.call("guarded", 1), 1)
        hall.plan = Plan(("g",))
        self.assertEqual((hall.plan, hall.tapes_of("guarded"), hall.space), (Plan(("g",)), (), 2))
        self.assertEqual(hall.call("guarded", 1), 0)
        self.assertEqual((hall.astray, hall.many), ((1,), 4))
        # Also the same plan takes all tapes away, and is a deed.
        set_plan(plan=Plan(("g",)), hall=hall)
        self.assertEqual((hall.tapes_of("guarded"), hall.many), ((), 5))
        self.assertEqual(hall.journal[2:], ("plan g no yes -", "call guarded 1", "plan g no yes -"))
        set_plan(hall, Plan(("a", "bc", "g"), known=True, held=False, own=("guarded", "shares")))
        self.assertEqual(hall.journal[-1], "plan a,bc,g yes no guarded,shares")
        for _ in range(3):
            hall.undo()
        self.assertEqual((hall.plan, len(hall.tapes_of("guarded"))), (Plan(("g",)), 0))
        hall.undo()
        self.assertEqual((hall.plan, len(hall.tapes_of("guarded"))), (Plan(), 1))

    def test_another_room(self):
        hall = hall_of(room=1)
        for x in (0, 1):
            hall.call("guarded", x)
        self.assertEqual(len(hall.tapes_of("guarded")), 1)
        hall.space = 2
        hall.call("guarded", 0)
        tapes = hall.tapes_of("guarded")
        self.assertEqual(([tape.end for tape in tapes], hall.setup.places), ([("gives", ("known", 0)), ("gives", ("known", 1))], 1))
        hall.space = 2
        self.assertEqual(hall.tapes_of("guarded"), tapes)
        set_space(space=1, hall=hall)
        self.assertEqual(hall.tapes_of("guarded"), tapes[1:])
        hall.space = 0
        self.assertEqual(hall.tapes_of("guarded"), ())
        for x in (0, 1, 2):
            self.assertEqual(hall.call("guarded", x), int(x == 0))
            self.assertEqual(hall.tapes_of("guarded"), ())
        self.assertEqual((hall.space, hall.astray), (0, ()))
        self.assertEqual(hall.journal[2:8], ("room 2", "call guarded 0", "room 2", "room 1", "room 0", "call guarded 0"))
        for _ in range(4):
            hall.undo()
        self.assertEqual((hall.tapes_of("guarded"), hall.space), (tapes[1:], 1))

    def test_without_room_own_works_are_taped_each_time(self):
        works = (("inner", guarded, "n"), ("outer", lambda hand, x: hand.call("inner", x), "n"))
        hall = hall_of(Plan(("g",), own=("inner",)), works=works, room=2)
        hall.space = 0
        for x in (0, 1, 0):
            self.assertEqual(hall.call("outer", x), int(x == 0))
            self.assertEqual(hall.state[1], ((), ()))
        self.assertEqual(hall.astray, ())

    def test_rooms_that_are_none(self):
        hall = hall_of()
        hall.call("guarded", 0)
        for value in any_values() + [3, -1, "1", (1,)]:
            if not (is_plain(value) and 0 <= value <= 2):
                self.unchanged(hall, self.refused, BadRoom, value, set_space, hall, value)
                self.unchanged(hall, self.refused, BadRoom, value, lambda: setattr(hall, "space", value))

    def test_what_went_astray_stays_so_by_its_own_plan(self):
        hall = hall_of(Plan())
        for x in (0, 1, 2):
            hall.call("guarded", x)
        hall.change("c", 0)
        hall.call("guarded", 1)
        self.assertEqual(hall.astray, (1, 2, 4))
        hall.plan = Plan(("g",))
        for x in (0, 1, 2):
            hall.call("guarded", x)
        self.assertEqual(hall.astray, (1, 2, 4))
        for left in (9, 8, 7, 6, 5, 4):
            self.assertEqual((hall.many, hall.astray), (left, (1, 2, 4) if left > 4 else (1, 2)))
            hall.undo()

    def test_undo_and_redo(self):
        hall = hall_of()
        self.raises(NothingToUndo, "", None, hall.undo)
        self.raises(NothingToRedo, "", None, hall.redo)
        hall.call("guarded", 0)
        hall.change("c", 2)
        hall.undo()
        hall.undo()
        self.raises(NothingToUndo, "", None, hall.undo)
        self.assertEqual((hall.many, hall.state), (0, first_state(hall.setup)))
        hall.redo()
        self.assertEqual(hall.journal, ("call guarded 0",))
        self.unchanged(hall, self.refused, NoName, "none", hall.change, "none", 0)
        hall.redo()
        self.assertEqual(hall.journal, ("call guarded 0", "change c 2"))
        self.raises(NothingToRedo, "", None, hall.redo)
        hall.undo()
        hall.space = 1
        self.raises(NothingToRedo, "", None, hall.redo)
        hall.undo()
        hall.redo()
        self.assertEqual(hall.journal, ("call guarded 0", "room 1"))

    def test_the_class_is_as_listed(self):
        for name in ("setup", "state", "plan", "space", "many", "astray", "journal"):
            self.assertIsInstance(vars(Hall)[name], property)
        for name in ("setup", "state", "many", "astray", "journal"):
            with self.assertRaises(AttributeError):
                setattr(hall_of(), name, None)
        listed = {
            "call": ["self", "name", "values"], "change": ["self", "name", "thing"], "tapes_of": ["self", "name"], "undo": ["self"], "redo": ["self"],
            "trial": ["self"], "tried": ["self", "look", "keep"], "copy": ["self"], "__eq__": ["self", "other"], "__init__": ["self", "setup", "plan"],
        }
        for name, names in listed.items():
            self.assertEqual([*inspect.signature(vars(Hall)[name]).parameters], names)
        self.assertIsInstance(vars(Hall)["read"], classmethod)
        self.assertEqual([*inspect.signature(Hall.read).parameters], ["setup", "plan", "lines"])
        self.assertEqual([*inspect.signature(set_plan).parameters], ["hall", "plan"])
        self.assertEqual([*inspect.signature(set_space).parameters], ["hall", "space"])
        for thing in (Hall, set_plan, set_space):
            self.assertEqual(thing.__module__, "tapedonce.halls")
        with self.assertRaises(TypeError):
            hall_of().tried(lambda hall: 0, True)


class Trials(Halls):

    def test_nothing_stays(self):
        hall = hall_of()
        hall.call("guarded", 0)
        hall.change("c", 2)
        hall.undo()
        ahead = hall.copy()
        with hall.trial() as trial:
            self.assertIs(trial.hall, hall)
            hall.redo()
            hall.call("guarded", 1)
            hall.plan = Plan()
            hall.space = 0
            self.raises(Fault, "words", ("zero",), hall.call, "shares", 0, "p")
            self.assertEqual(hall.many, 6)
        self.assertTrue(hall == ahead)
        self.assertEqual(self.content(hall), self.content(ahead))
        hall.redo()
        self.assertEqual(hall.journal, ("call guarded 0", "change c 2"))

    def test_undone_beyond_the_block(self):
        hall = hall_of()
        hall.call("guarded", 0)
        hall.call("guarded", 1)
        with hall.trial():
            hall.undo()
            hall.undo()
            self.raises(NothingToUndo, "", None, hall.undo)
        self.assertEqual(hall.journal, ("call guarded 0", "call guarded 1"))
        self.raises(NothingToRedo, "", None, hall.redo)
        with hall.trial() as trial:
            hall.undo()
            trial.keep()
        self.assertEqual(hall.journal, ("call guarded 0",))
        hall.redo()
        self.assertEqual(hall.journal, ("call guarded 0", "call guarded 1"))

    def test_kept(self):
        hall = hall_of()
        with hall.trial() as trial:
            hall.call("guarded", 0)
            trial.keep()
            trial.keep()
            hall.call("guarded", 1)
        self.assertEqual(hall.journal, ("call guarded 0", "call guarded 1"))

    def test_an_error_takes_all_back_and_goes_on(self):
        for error in (KeyError("x"), Fault(("no",)), KeyboardInterrupt(), NothingToUndo()):
            hall = hall_of()
            hall.change("c", 0)
            with self.assertRaises(error.__class__) as told:
                with hall.trial() as trial:
                    hall.call("guarded", 0)
                    trial.keep()
                    raise error
            self.assertIs(told.exception, error)
            self.assertEqual(hall.journal, ("change c 0",))
        hall = hall_of()
        with self.assertRaises(Fault):
            with hall.trial() as trial:
                trial.keep()
                hall.call("shares", 0, "p")
        self.assertEqual((hall.many, hall.state), (0, first_state(hall.setup)))

    def test_nested(self):
        for outer, inner, expected in ((False, False, ()), (False, True, ()), (True, False, ("call guarded 0", "change c 2")), (True, True, ("call guarded 0", "change c 0", "change c 2"))):
            for early in (True, False):
                hall = hall_of()
                with hall.trial() as one:
                    hall.call("guarded", 0)
                    if outer and early:
                        one.keep()
                    with hall.trial() as other:
                        hall.change("c", 0)
                        if inner:
                            other.keep()
                    hall.change("c", 2)
                    if outer and not early:
                        one.keep()
                self.assertEqual(hall.journal, expected)

    def test_keep_outside_of_the_block_keeps_nothing(self):
        hall = hall_of()
        trial = hall.trial()
        self.assertIs(trial.hall, hall)
        trial.keep()
        hall.change("c", 0)
        with trial as again:
            self.assertIs(again, trial)
            hall.change("c", 2)
        self.assertEqual(hall.journal, ("change c 0",))
        trial.keep()
        self.assertEqual(hall.journal, ("change c 0",))
        hall.change("c", 1)
        with trial:
            hall.change("c", 2)
        self.assertEqual(hall.journal, ("change c 0", "change c 1"))

    def test_left_by_return_and_by_break(self):
        hall = hall_of()

        def used():
            with hall.trial() as trial:
                hall.change("c", 0)
                trial.keep()
                return hall.state[0][0][0]

        self.assertEqual((used(), hall.many), (0, 1))
        for _ in range(2):
            with hall.trial():
                hall.change("c", 2)
                break
        self.assertEqual(hall.journal, ("change c 0",))

    def test_copies_of_a_block_stay(self):
        hall = hall_of()
        with hall.trial():
            hall.call("guarded", 0)
            twin = hall.copy()
            hall.call("guarded", 1)
        self.assertEqual((twin.journal, hall.journal), (("call guarded 0",), ()))
        twin.undo()
        twin.redo()
        self.assertEqual(twin.journal, ("call guarded 0",))

    def test_tried(self):
        hall = hall_of()
        self.assertEqual(hall.tried(lambda given: [given is hall, given.call("guarded", 0), given.many]), [True, 1, 1])
        self.assertEqual(hall.many, 0)
        self.assertIsNone(hall.tried(look=lambda given: given.change("c", 0), keep=True))
        self.assertEqual(hall.journal, ("change c 0",))
        for keep in any_values() + [0, 1, "yes", [True]]:
            if keep is not True:
                hall.tried(lambda given: given.change("c", 2), keep=keep)
        self.assertEqual(hall.journal, ("change c 0",))
        for keep in (True, False):
            self.raises(Fault, "words", ("zero",), hall.tried, lambda given: given.call("shares", 0, "p"), keep=keep)
            self.assertEqual(hall.journal, ("change c 0",))

        def takes(given):
            try:
                given.call("shares", 0, "p")
            except Fault as fault:
                return fault.words

        self.assertEqual(hall.tried(takes, keep=True), ("zero",))
        self.assertEqual(hall.journal, ("change c 0", "call shares 0 p"))
        self.assertEqual(hall.tried(lambda given: given.tried(lambda same: same.change("c", 2), keep=True) or given.many, keep=False), 3)
        self.assertEqual(hall.many, 2)


class Journals(Halls):

    def read(self, *lines):
        return Hall.read(Setup(WORLD, WORKS, 1), Plan(("g",)), lines)

    def test_lines(self):
        lines = (
            "call guarded 0", "call shares 0 p", "call shares 1 q", "change c 2", "change p -", "change p 0", "change p 2,1", "plan - no no -", "plan a,g yes no guarded,shares",
            "plan - yes yes shares", "plan a,b,c,d,e,f no yes -", "room 0", "room 1", "room 2",
        )
        hall = self.read(*lines)
        self.assertEqual((hall.journal, hall.many), (lines, len(lines)))
        self.assertEqual((hall.space, hall.plan, hall.state[0]), (2, Plan(tuple("abcdef")), ((2, 0), ((2, 1), ()))))
        by_name = Hall.read(lines=lines, plan=Plan(("g",)), setup=hall.setup)
        self.assertTrue(by_name == hall)
        while hall.many:
            hall.undo()
        self.assertEqual((hall.state, hall.plan, hall.space), (first_state(hall.setup), Plan(("g",)), 1))
        none = self.read()
        self.assertEqual((none.journal, none.many), ((), 0))

    def test_lines_of_other_forms(self):
        wrong = [
            "", " ", "call", "call ", "call  guarded 0", " call guarded 0", "call guarded 0 ", "call guarded  0", "call guarded 00", "call guarded -1", "call guarded 10", "call guarded a1",
            "call guarded 0\n", "call guarded\t0", "Call guarded 0", "CALL", "call Guarded 0", "call guarded 0,1", "call guarded -", "call guarded abcdefghi", "call abcdefghi", "call guarded \u0661",
            "change", "change c", "change c 0 1", "change c 0,", "change c ,0", "change c 0,,1", "change p 0, 1", "change c -1", "change c 10", "change p --", "change c c", "change C 0", "change c  0", "change c",
            "change p 0,a", "change 1 0", "change c \u00b2", "change c +1", "change c 0\n", "plan", "plan g no yes", "plan g no yes - -", "plan g no Yes -", "plan g no true -", "plan g 0 1 -", "plan , no yes -",
            "plan g, no yes -", "plan ,g no yes -", "plan g,,h no yes -", "plan G no yes -", "plan g no yes ", "plan g no yes", "plan  no yes -", "plan g1 no yes -", "plan abcdefghi no yes -", "plan g no yes guarded,",
            "plan -,g no yes -", "plan g no yes -,-", "plan g - yes -", "plan g no - -", "room", "room ", "room 01", "room -", "room 1 1", "room one", "room -1", "room 10", "room  1", "rooms 1", "put c 0", "guarded c 0", "plans g no yes -", "guards g no yes -", "rooms 1", "undo", "redo", "cells",
            "rows", "many", "astray", "tapes guarded", "plan g", "calls guarded 0", "x" * 20000, "call " + "guarded " * 900, "change c " + "0," * 900,
        ]
        self.refuse_lines(wrong)

    def test_lines_that_are_refused(self):
        wrong = [
            "call other 0", "call guarded", "call guarded 3", "call guarded 9", "call guarded p", "call guarded 0 0", "call shares 0", "call shares 0 c", "call shares p 0", "call shares 0 p p", "call c",
            "call guarded 0 0 0 0 0 0", "change d 0", "change q -", "change q 0", "change other 0", "change guarded 0", "change c 3", "change c 9", "change c -", "change c 0,1", "change p 3", "change p 0,0,0", "change p 0,9",
            "plan g,a no yes -", "plan g,g no yes -", "plan a,b,c,d,e,f,g no yes -", "plan g no yes other", "plan g no yes shares,guarded", "plan g no yes guarded,guarded", "plan g no yes c",
            "plan g no yes guarded,other,shares", "plan g no yes a,b,c,d", "room 3", "room 9",
        ]
        self.refuse_lines(wrong)

    def refuse_lines(self, wrong):
        good = ("call guarded 0", "call shares 0 p", "room 2")
        for line in wrong:
            for many in (0, 1, 3):
                with self.subTest(line=line[:60], many=many):
                    self.raises(BadLine, "number", many + 1, self.read, *good[:many], line)
                    self.raises(BadLine, "number", many + 1, self.read, *good[:many], line, "room 9", "x", *good)

    def test_what_are_no_lines(self):
        setup = Setup(WORLD, WORKS, 1)
        good = ("call guarded 0",)
        wrong = [value for value in any_values() if value != ()] + [list(good), good[0], good + (None,), good + (b"room 1",), ("x", 1), {good: 1}, (good,)]
        for value in wrong:
            self.raises(BadLine, "number", 0, Hall.read, setup, Plan(), value)
        # The plan is told first, as it comes first; and what is no string is told ahead of all lines.
        self.refused(BadPlan, None, Hall.read, setup, None, 0)
        self.raises(BadLine, "number", 0, Hall.read, setup, Plan(), ("x", None))

    def test_one_item_and_a_worth(self):
        world = World(2, 1, (("c", 0),), (("p", ()),), ("c", "p"))
        hall = Hall.read(Setup(world, WORKS[:1], 1), Plan(), ("change c 1", "change p 1"))
        self.assertEqual(hall.state[0], ((1,), ((1,),)))
        self.assertEqual(hall.journal, ("change c 1", "change p 1"))


class Equal(Halls):

    def test_state_plan_space_and_setup(self):
        setup = Setup(WORLD, WORKS, 2)
        one, other = Hall(setup, Plan(("g",))), Hall(setup, Plan(("g",)))
        self.assertTrue(one == other)
        one.change("c", 2)
        self.assertFalse(one == other)
        self.assertTrue(one != other)
        one.change("c", 1)
        # What was done and what can be undone does not tell halls apart.
        self.assertTrue(one == other)
        self.assertFalse(one != other)
        one.call("guarded", 0)
        self.assertFalse(one == other)
        one.plan = Plan(("g",))
        self.assertTrue(one == other)
        one.space = 1
        self.assertFalse(one == other)
        one.space = 2
        self.assertTrue(one == other)
        one.plan = Plan(("g",), held=False)
        self.assertFalse(one == other)

    def test_equal_nothing_else(self):
        one = hall_of()
        self.assertFalse(one == Hall(Setup(WORLD, WORKS, 2), Plan(("g",))))
        self.assertTrue(one == Hall(one.setup, Plan(("g",))))
        for value in any_values() + [one.state, one.setup, one.plan, one.journal, Hall]:
            self.assertFalse(one == value)
            self.assertFalse(value == one)
            self.assertTrue(one != value)

    def test_copies_are_independent(self):
        hall = hall_of()
        hall.call("guarded", 0)
        hall.change("c", 2)
        hall.undo()
        twin = hall.copy()
        self.assertIsNot(twin, hall)
        self.assertIs(twin.__class__, Hall)
        self.assertEqual(self.content(twin), self.content(hall))
        twin.redo()
        self.assertEqual((twin.many, hall.many), (2, 1))
        hall.undo()
        self.assertEqual((twin.many, hall.many), (2, 0))
        self.raises(NothingToRedo, "", None, twin.redo)


class Examples(unittest.TestCase):

    def test_astray_and_another_plan(self):
        hall = Hall(Setup(World(2, 1, (), ()), (("work", lambda hand, x: [0, 1][int(hand.holds(x == 0, "g"))], "n"),), 1), Plan())
        told = [hall.call("work", 0), hall.call("work", 1), hall.astray]
        hall.plan = Plan(("g",))
        expected = [[1, 1, (1,)], 0, ("call work 0", "call work 1", "plan g no yes -", "call work 1")]
        self.assertEqual([told, hall.call("work", 1), hall.journal], expected)

    def test_a_list_has_the_states_of_kept(self):
        """The list itself, beside what keepers tell, where the room is the setup's."""
        for setup, plan, known in drawn_halls(range(20)):
            self.assertIsInstance(known, ListHall)
            state = first_state(setup)
            for deed in setup.deeds[:6]:
                told, state = kept(setup, plan, state, deed)
                self.assertEqual((known.do(deed), known.state), (told, state))


if __name__ == "__main__":
    unittest.main()
