"""Section 18: a desk."""

import inspect
import random
import unittest

from tapedonce.desk import Desk
from tapedonce.errors import (
    BadCommand, BadPlan, BadRoom, BadThing, BadValues, NoName, NothingToRedo, NothingToUndo, NoWork,
)
from tapedonce.halls import Hall
from tapedonce.plans import Plan
from tapedonce.worlds import Setup, World
from tests.listhall import deed_words, drawn_halls, drawn_plan, plan_words, thing_words
from tests.making import Refusing
from tests.values import any_values

BARE = World(2, 1, (), ())
WORLD = World(3, 2, (("c", 1), ("d", 0)), (("p", (1,)), ("q", ())), ("c", "p"))


def guarded(hand, x):
    return [0, 1][int(hand.holds(x == 0, "g"))]


def shares(hand, x, row):
    hand.put("c", x)
    row[0] = x
    return hand.tried(lambda: 2 // x, lambda word: hand.fail("no"))


WORKS = (("guarded", guarded, "n"), ("shares", shares, "nr"))


def desk_of(plan=None, world=WORLD, works=WORKS, room=2):
    return Desk(Setup(world, works, room), plan or Plan(("g",)))


class Driven(unittest.TestCase, Refusing):
    """Desks that are told lines by chance, beside a list."""

    def questions(self, known):
        world, stand = known.reckoned.world, known.state[0]
        found = {
            "cells": ", ".join(f"{name} {worth}" for (name, _), worth in zip(world.cells, stand[0])) or "-",
            "rows": ", ".join(f"{name} {thing_words(items)}" for (name, _), items in zip(world.rows, stand[1])) or "-",
            "astray": " ".join(str(at) for at in known.astray()) or "-", "many": str(len(known.done) - 1),
            "plan": plan_words(known.plan), "room": f"room {known.space}",
        }
        for name, texts in zip(sorted(known.reckoned.kinds), known.state[1]):
            found[f"tapes {name}"] = str(len(texts))
        return found

    def test_by_chance(self):
        seen = {}
        for seed, (setup, plan, known) in enumerate(drawn_halls(range(160))):
            chance, desk = random.Random(seed), Desk(setup, plan)
            for _ in range(16):
                line, answer = self.told(chance, setup, known)
                if answer is None:
                    self.raises(NothingToUndo if line == "undo" else NothingToRedo, "", None, desk.say, line)
                else:
                    self.assertEqual(desk.say(line), answer)
                    word = answer.split(" ")[0]
                    seen[word] = seen.get(word, 0) + 1
                for question, expected in self.questions(known).items():
                    self.assertEqual(desk.say(question), expected)
            self.assertEqual(desk.hall.journal, known.journal())
            again = Desk(setup, plan)
            self.assertEqual(len(again.say_all(desk.hall.journal)), desk.hall.many)
            self.assertTrue(again.hall == desk.hall)
            self.assertTrue(Hall.read(setup, plan, desk.hall.journal) == desk.hall)
        self.assertGreater(min(seen.values()), 100)
        self.assertEqual(sorted(seen), ["done", "faults", "gives"])

    def told(self, chance, setup, known):
        way = chance.randrange(12)
        if way < 6:
            deed = chance.choice(setup.deeds)
            told = known.do(deed)
            if deed[0] == "change":
                return deed_words(deed), "done"
            return deed_words(deed), f"gives {told[1]}" if told[0] == "gives" else " ".join(("faults",) + told[1])
        if way == 6:
            plan = drawn_plan(chance, setup)
            known.take_plan(plan)
            return plan_words(plan), "done"
        if way == 7:
            space = chance.randrange(3)
            known.take_space(space)
            return f"room {space}", "done"
        if way < 10:
            if len(known.done) == 1:
                return "undo", None
            known.undo()
            return "undo", "done"
        if not known.undone:
            return "redo", None
        known.redo()
        return "redo", "done"


class Lines(unittest.TestCase, Refusing):

    def check(self, desk, *pairs):
        for line, answer in pairs:
            with self.subTest(line=line):
                self.assertEqual(desk.say(line), answer)

    def test_answers(self):
        desk = desk_of()
        self.assertIs(desk.hall.__class__, Hall)
        self.assertIs(desk.hall, desk.hall)
        self.check(
            desk, ("cells", "c 1, d 0"), ("rows", "p 1, q -"), ("tapes guarded", "0"), ("astray", "-"), ("many", "0"), ("plan", "plan g no yes -"), ("room", "room 2"),
            ("call guarded 0", "gives 1"), ("call guarded 2", "gives 0"), ("tapes guarded", "2"), ("tapes shares", "0"), ("call shares 0 p", "faults no zero"), ("many", "3"),
            ("cells", "c 0, d 0"), ("rows", "p 0, q -"), ("change p 2,1", "done"), ("rows", "p 2,1, q -"), ("change c 2", "done"), ("cells", "c 2, d 0"),
            ("undo", "done"), ("cells", "c 0, d 0"), ("redo", "done"), ("cells", "c 2, d 0"), ("change p -", "done"), ("rows", "p -, q -"),
            ("call shares 1 q", "faults index"), ("plan - yes no guarded", "done"), ("plan", "plan - yes no guarded"), ("tapes guarded", "0"), ("call guarded 0", "gives 1"),
            ("call guarded 1", "gives 1"), ("astray", "9"), ("call guarded 2", "gives 1"), ("astray", "9 10"), ("room 0", "done"), ("tapes guarded", "0"), ("room", "room 0"), ("many", "12"),
        )
        self.assertEqual(desk.hall.astray, (9, 10))

    def test_nothing_to_tell(self):
        desk = desk_of(Plan(), BARE, (("work", lambda hand: hand.fail("no"), ""),), 1)
        self.check(desk, ("cells", "-"), ("rows", "-"), ("astray", "-"), ("call work", "faults no"), ("tapes work", "1"), ("plan", "plan - no yes -"))

    def test_by_name(self):
        desk = Desk(plan=Plan(("g",)), setup=Setup(WORLD, WORKS, 1))
        self.assertEqual(desk.say(line="room"), "room 1")
        self.assertEqual(desk.say_all(lines=("many", "call guarded 0", "many")), ("0", "gives 1", "1"))
        self.assertEqual(desk.say_all(()), ())

    def test_the_hall_is_in_use(self):
        desk = desk_of()
        with desk.hall.trial():
            self.assertEqual(desk.say("call guarded 0"), "gives 1")
            self.assertEqual(desk.say("many"), "1")
        self.assertEqual(desk.say("many"), "0")
        desk.hall.change("c", 2)
        self.check(desk, ("cells", "c 2, d 0"), ("undo", "done"), ("cells", "c 1, d 0"))

    def test_plans_that_are_none_or_do_not_fit(self):
        for value in any_values() + [Plan(own=("other",))]:
            self.refused(BadPlan, value, Desk, Setup(WORLD, WORKS, 1), value)

    def test_what_is_no_line(self):
        forms = [
            "", " ", "call", "call ", "call  guarded 0", " call guarded 0", "call guarded 0 ", "call guarded 00", "call guarded -1", "call guarded a1", "call guarded 0,1", "call guarded -",
            "call Guarded 0", "call abcdefghi", "change", "change c", "change c 0 1", "change c 0,", "change c ,", "change c -0", "change C 0", "change c x", "change p 0, 1", "change c 10",
            "plan g", "plan g no yes", "plan g no yes - -", "plan g no maybe -", "plan g, no yes -", "plan G no yes -", "plan abcdefghi no yes -", "room 12", "room -", "room one", "room 1 1", "room ",
            "undo ", " undo", "undo 1", "Undo", "redo 1", "redo ", "cells ", "cells c", "rows p", "rows ", "tapes", "tapes ", "tapes guarded shares", "tapes Guarded", "tapes 0", "tapes abcdefghi", "tapes  guarded",
            "astray 0", "astray ", "many 1", "many ", "MANY", "hello", "tape guarded", "put c 0", "changed p -", "plans g no yes -", "set - no no -", "rooms 1", "many\n", "\nmany", "call guarded \u0661", "undo redo", "x" * 20000,
        ]
        desk = desk_of()
        desk.say_all(("call guarded 0", "change c 2", "undo"))
        for value in forms + [value for value in any_values()] + [("many",), ["many"], b"many"]:
            self.unchanged(desk, BadCommand, value, value)

    def unchanged(self, desk, error, value, line):
        ahead, past = (desk.hall.journal, desk.hall.state, desk.hall.plan, desk.hall.space), desk.hall.copy()
        self.raises(error, "value", value, desk.say, line)
        self.assertEqual((desk.hall.journal, desk.hall.state, desk.hall.plan, desk.hall.space), ahead)
        past.redo()
        desk.say("redo")
        self.assertTrue(desk.hall == past)
        desk.say("undo")

    def test_what_the_methods_refuse(self):
        desk = desk_of()
        desk.say_all(("call guarded 0", "change c 2", "undo"))
        for error, line, value in (
            (NoWork, "call other 0", "other"), (NoWork, "call c", "c"), (NoWork, "tapes other", "other"), (NoWork, "tapes c", "c"), (BadValues, "call guarded", ()), (BadValues, "call guarded 3", (3,)),
            (BadValues, "call guarded 9", (9,)), (BadValues, "call guarded p", ("p",)), (BadValues, "call guarded 0 0", (0, 0)), (BadValues, "call shares 0 c", (0, "c")), (BadValues, "call shares p 0", ("p", 0)),
            (BadValues, "call guarded 0 1 2 3 p q", (0, 1, 2, 3, "p", "q")), (NoName, "change d 0", "d"), (NoName, "change q 9", "q"), (NoName, "change other -", "other"), (BadThing, "change c 3", 3),
            (BadThing, "change c 9", 9), (BadThing, "change c -", ()), (BadThing, "change c 0,1", (0, 1)), (BadThing, "change p 3", (3,)), (BadThing, "change p 0,9", (0, 9)), (BadThing, "change p 0,0,0", (0, 0, 0)),
            (BadPlan, "plan g,a no yes -", (("g", "a"), False, True, ())), (BadPlan, "plan a,a yes no -", (("a", "a"), True, False, ())),
            (BadPlan, "plan a,b,c,d,e,f,g no yes guarded", (tuple("abcdefg"), False, True, ("guarded",))), (BadPlan, "plan - no yes shares,guarded", ((), False, True, ("shares", "guarded"))),
            (BadPlan, "plan - no yes a,b,c,d", ((), False, True, tuple("abcd"))), (BadPlan, "plan g no yes other", Plan(("g",), own=("other",))), (BadPlan, "plan - yes no c,guarded", Plan(known=True, held=False, own=("c", "guarded"))),
            (BadRoom, "room 3", 3), (BadRoom, "room 9", 9),
        ):
            with self.subTest(line=line):
                self.unchanged(desk, error, value, line)

    def test_nothing_to_undo_and_redo(self):
        desk = desk_of()
        self.raises(NothingToUndo, "", None, desk.say, "undo")
        self.raises(NothingToRedo, "", None, desk.say, "redo")

    def test_what_those_ahead_did_stays(self):
        desk = desk_of()
        self.raises(BadCommand, "value", "what", desk.say_all, ("call guarded 0", "change c 2", "what", "change c 0"))
        self.assertEqual(desk.hall.journal, ("call guarded 0", "change c 2"))
        self.raises(BadRoom, "value", 7, desk.say_all, ("undo", "room 7", "undo"))
        self.assertEqual(desk.hall.journal, ("call guarded 0",))
        for value in any_values():
            self.refused(BadCommand, value, desk.say_all, ("redo", "undo", value, "undo"))
        self.assertEqual(desk.hall.journal, ("call guarded 0",))
        # A Fault is an answer, and the next lines are told.
        self.assertEqual(desk.say_all(("call shares 0 q", "many")), ("faults index", "2"))

    def test_the_class_is_as_listed(self):
        self.assertEqual(Desk.__module__, "tapedonce.desk")
        self.assertIsInstance(vars(Desk)["hall"], property)
        for name, names in (("__init__", ["self", "setup", "plan"]), ("say", ["self", "line"]), ("say_all", ["self", "lines"])):
            self.assertEqual([*inspect.signature(vars(Desk)[name]).parameters], names)


class Examples(unittest.TestCase):

    def test_a_few_lines(self):
        desk = Desk(Setup(World(2, 1, (("c", 1),), ()), (("work", lambda hand, x: [0, 1][int(hand.holds(x == 0, "g"))], "n"),), 1), Plan(("g",)))
        told = desk.say_all(("call work 0", "room 2", "undo", "many", "plan", "cells", "tapes work"))
        self.assertEqual(told, ("gives 1", "done", "done", "1", "plan g no yes -", "c 1", "1"))


if __name__ == "__main__":
    unittest.main()
