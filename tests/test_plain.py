"""Section 6: hands and plain runs."""

import inspect
import itertools
import unittest

from tapedonce.errors import BadDeed, BadStand, Fault
from tapedonce.numbers import Number
from tapedonce.plain import plainly
from tapedonce.rows import Row
from tapedonce.worlds import Setup, World
from tests.making import Refusing, setup_of, small_world
from tests.reckoning import reckoned_plainly
from tests.scripts import Maker, work_of
from tests.values import any_values, is_plain


def told_of(work, kinds="", values=(), world=None, stand=None):
    """(told, stand) of one work."""
    setup = setup_of(work, kinds, world)
    return plainly(setup, stand or setup.world.first, ("call", "work", values))


def handed(work, kinds="", values=(), world=None):
    """What a work returns in a plain run, whatever that is."""
    seen = []

    def looking(hand, *values):
        seen.append(work(hand, *values))
        return 0

    told_of(looking, kinds, values, world)
    return seen[0]


def several(**works):
    """A setup of works (work, kinds) in the small world."""
    return Setup(small_world(), tuple((name, *works[name]) for name in sorted(works)), 1)


def call(setup, name, *values):
    return plainly(setup, setup.world.first, ("call", name, values))


def fill(hand, many):
    """Does so many things that change nothing."""
    for _ in range(many):
        hand.cell("c")


class ByHand(unittest.TestCase):
    """Each method of the hand."""

    def check_number(self, found, size, worth):
        self.assertIs(found.__class__, Number)
        self.assertEqual((found.size, found.worth), (size, worth))
        self.assertTrue(is_plain(found.worth))

    def test_numbers_come_as_numbers_and_rows_as_rows(self):
        for size, most in itertools.product((2, 3, 4), (1, 2)):
            world = World(size, most, (), (("p", (1,)), ("q", ())))
            for worth in range(size):
                one, two, three = handed(lambda hand, *values: values, "nrr", (worth, "q", "p"), world)
                self.check_number(one, size, worth)
                for row, worths in ((two, ()), (three, (1,))):
                    self.assertIsInstance(row, Row)
                    self.assertEqual((row.worths, len(row)), (worths, len(worths)))

    def test_rows_have_the_size_and_the_most_of_the_world(self):
        for size, most in itertools.product((2, 3, 4), (1, 2)):
            def work(hand, row):
                row += size - 1
                row[0] += 1
                self.check_number(row[0], size, 0)
                if most == 2:
                    row += 1
                with self.assertRaises(Fault) as told:
                    row += 0
                self.assertEqual(told.exception.words, ("full",))
                return 0

            world = World(size, most, (), (("p", ()),))
            left = ((), ((0, 1)[:most],))
            self.assertEqual(told_of(work, "r", ("p",), world), (("gives", 0), left))

    def test_holds_tells_a_bool(self):
        for truth in (True, False):
            self.assertIs(handed(lambda hand: hand.holds(truth, "g")), truth)
            self.assertIs(handed(lambda hand: hand.holds(name="g", truth=truth)), truth)
        self.assertIs(handed(lambda hand, x: hand.holds(x < 2, "g"), "n", (1,)), True)
        self.assertIs(handed(lambda hand, x: hand.holds(x == 2, "g"), "n", (1,)), False)

    def test_fine_tells_the_number(self):
        self.check_number(handed(lambda hand, x: hand.fine(x, "g"), "n", (3,)), 4, 3)
        self.check_number(handed(lambda hand, x: hand.fine(name="g", x=x + 2), "n", (3,)), 4, 1)
        self.assertEqual(handed(lambda hand: hand.fine(3, "g")), 3)
        self.assertEqual(handed(lambda hand: hand.fine(Number(4, 1), "g") + 3).worth, 0)

    def test_cells_are_read(self):
        self.check_number(handed(lambda hand: hand.cell("c")), 4, 1)
        self.check_number(handed(lambda hand: hand.cell(name="d")), 4, 0)

    def test_cells_are_put(self):
        for worth in range(4):
            for x in (worth, Number(4, worth)):
                found = told_of(lambda hand: [hand.put("d", x), hand.cell("d")][1])
                self.assertEqual(found, (("gives", worth), ((1, worth), ((1,), ()))))
                found = told_of(lambda hand: [hand.put(x=x, name="c"), hand.cell("d")][1])
                self.assertEqual(found, (("gives", 0), ((worth, 0), ((1,), ()))))

    def test_rows_by_name_are_one_row(self):
        def work(hand, one, two, three):
            self.assertIs(hand.row("p"), hand.row(name="p"))
            self.assertIs(hand.row("p"), one)
            self.assertIs(one, three)
            self.assertIs(hand.row("q"), two)
            self.assertIsNot(one, two)
            one += 3
            return three[1]

        self.assertEqual(told_of(work, "rrr", ("p", "q", "p")), (("gives", 3), ((1, 0), ((1, 3), ()))))

    def test_same_tells_whether_rows_are_one(self):
        def work(hand, one, two):
            found = [hand.same(one, two), hand.same(other=two, one=one), hand.same(two, one)]
            found += [hand.same(one, hand.row("p")), hand.same(hand.row("q"), two), hand.same(one, one)]
            for truth in found:
                self.assertIsInstance(truth, bool)
            return found

        for one, two in itertools.product("pq", repeat=2):
            found = handed(work, "rr", (one, two))
            self.assertEqual(found, [one == two] * 3 + [one == "p", two == "q", True])
        bare = World(2, 1, (), (("p", (1,)), ("q", (1,))))
        self.assertIs(handed(lambda hand, one, two: hand.same(one, two), "rr", ("p", "q"), bare), False)

    def test_call_tells_the_answer_of_a_work(self):
        def inner(hand, x, row):
            self.check_number(x, 4, 2)
            row += x
            return 3

        for x in (2, Number(4, 2)):
            def outer(hand):
                self.answer = hand.call("inner", x, hand.row("q"))
                return self.answer + 2

            setup = several(inner=(inner, "nr"), outer=(outer, ""))
            self.assertEqual(call(setup, "outer"), (("gives", 1), ((1, 0), ((1,), (2,)))))
            self.check_number(self.answer, 4, 3)

    def test_rows_that_are_handed_on_are_the_same(self):
        seen = []

        def inner(hand, one, two):
            self.assertIs(one, seen[0])
            self.assertIs(two, seen[0])
            self.assertIs(hand.row("q"), one)
            two += 1
            return one[0]

        def outer(hand, row):
            seen.append(row)
            return hand.call("inner", row, hand.row("q")) + row[0]

        setup = several(inner=(inner, "rr"), outer=(outer, "r"))
        self.assertEqual(call(setup, "outer", "q"), (("gives", 2), ((1, 0), ((1,), (1,)))))

    def test_fail_raises_its_word(self):
        for word in ("a", "abcdefgh", "zero"):
            def work(hand):
                with self.assertRaises(Fault) as told:
                    hand.fail(word)
                self.assertEqual(told.exception.words, (word,))
                hand.put("c", 2)
                hand.fail(word=word)

            self.assertEqual(told_of(work), (("faults", (word,)), ((2, 0), ((1,), ()))))


class Tried(unittest.TestCase):

    def test_what_does_not_fault(self):
        self.assertEqual(handed(lambda hand: hand.tried(lambda: "this", lambda word: "that")), "this")
        self.assertEqual(handed(lambda hand: hand.tried(other=lambda word: "that", look=lambda: 5)), 5)

    def faults(self):
        """Ways to fault, with the word of each."""
        return [
            ("zero", lambda hand, row, x: x // (x - x)), ("index", lambda hand, row, x: row[3]),
            ("index", lambda hand, row, x: row.__setitem__(2, x)), ("full", lambda hand, row, x: row.__iadd__(x)),
            ("own", lambda hand, row, x: hand.fail("own")), ("kind", lambda hand, row, x: hand.call("bad")),
            ("zero", lambda hand, row, x: hand.call("part", 0)),
        ]

    def setup(self, work):
        world = World(4, 2, (("c", 1),), (("p", (1, 2)),))
        works = [("bad", lambda hand: None, ""), ("part", lambda hand, x: 3 // x, "n"), ("work", work, "rn")]
        return Setup(world, tuple(works), 1)

    def check(self, work, told, things=()):
        setup = self.setup(work)
        found = plainly(setup, setup.world.first, ("call", "work", ("p", 3)))
        self.assertEqual(found[0], told)

    def test_words_of_each_sort(self):
        for word, way in self.faults():
            words = []

            def work(hand, row, x):
                return hand.tried(lambda: way(hand, row, x), lambda told: [words.append(told), 2][1])

            self.check(work, ("gives", 2))
            self.assertEqual(words, [word])
            self.check(lambda hand, row, x: way(hand, row, x), ("faults", (word,)))

    def test_deep_is_taken(self):
        def work(hand):
            return hand.tried(lambda: hand.call("work"), lambda word: 3 if word == "deep" else 0)

        self.assertEqual(told_of(work)[0], ("gives", 3))

    def test_causes_come_behind(self):
        for (word, way), (second, other) in itertools.product(self.faults(), repeat=2):
            def work(hand, row, x):
                return hand.tried(lambda: way(hand, row, x), lambda told: other(hand, row, x))

            self.check(work, ("faults", (second, word)))

    def test_three_words_at_most(self):
        def chain(hand, *words):
            """Faults with the last word, the others being its causes."""
            if len(words) == 1:
                return hand.fail(words[0])
            return hand.tried(lambda: chain(hand, *words[:-1]), lambda told: hand.fail(words[-1]))

        for words in ("a", "ab", "abc", "abcd", "abcde"):
            self.check(lambda hand, row, x: chain(hand, *words), ("faults", tuple(words[::-1])[:3]))

    def test_causes_on_either_side(self):
        def look(hand):
            return hand.tried(lambda: hand.fail("a"), lambda word: hand.fail("b"))

        def other(hand):
            return hand.tried(lambda: hand.fail("c"), lambda word: hand.fail("d"))

        told = ("faults", ("d", "c", "b"))
        self.check(lambda hand, row, x: hand.tried(lambda: look(hand), lambda word: other(hand)), told)
        words = []

        def work(hand, row, x):
            return hand.tried(lambda: look(hand), lambda word: words.append(word) or 1)

        self.check(work, ("gives", 1))
        self.assertEqual(words, ["b"])
        self.check(lambda hand, row, x: hand.tried(lambda: look(hand), lambda word: hand.fail("e")),
                   ("faults", ("e", "b", "a")))
        self.check(lambda hand, row, x: hand.tried(lambda: hand.fail("e"), lambda word: other(hand)),
                   ("faults", ("d", "c", "e")))

    def test_tried_within_tried(self):
        def work(hand, row, x):
            inner = hand.tried(lambda: 3 // (x - x), lambda word: hand.tried(lambda: row[3], lambda word: 2))
            return hand.tried(lambda: hand.tried(lambda: x // 0, lambda word: hand.fail("no")), lambda word: inner)

        self.check(work, ("gives", 2))

    def test_what_was_done_in_look_stays(self):
        def work(hand):
            def look():
                hand.put("d", 3)
                return hand.fail("a")

            return hand.tried(look, lambda word: hand.cell("d"))

        self.assertEqual(told_of(work), (("gives", 3), ((1, 3), ((1,), ()))))

    def test_a_fault_of_a_called_work_comes_as_it_is(self):
        def inner(hand):
            return hand.tried(lambda: hand.fail("a"), lambda word: hand.fail("b"))

        setup = several(inner=(inner, ""), outer=(lambda hand: hand.call("inner"), ""))
        self.assertEqual(call(setup, "outer")[0], ("faults", ("b", "a")))


class Things(unittest.TestCase):
    """Things are counted ahead of doing them: the 41st is long."""

    def ways(self):
        """Each thing alone; the second part of each takes nothing but what is there."""
        return [
            lambda hand, row: hand.holds(True, "g"), lambda hand, row: hand.fine(1, "g"),
            lambda hand, row: hand.cell("c"), lambda hand, row: hand.put("c", 3), lambda hand, row: hand.row("p"),
            lambda hand, row: hand.same(row, row), lambda hand, row: hand.call("other"),
            lambda hand, row: hand.tried(lambda: 1, lambda word: 1),
            lambda hand, row: row.__setitem__(0, 2), lambda hand, row: row.__iadd__(2),
        ]

    def left(self, way, ahead):
        def work(hand, row):
            fill(hand, ahead)
            way(hand, row)
            return 1

        setup = several(other=(lambda hand: [hand.put("d", 2), 0][1], ""), work=(work, "r"))
        return call(setup, "work", "p")

    def test_each_thing_is_counted(self):
        for way in self.ways():
            for ahead in (0, 38, 39):
                self.assertEqual(self.left(way, ahead)[0], ("gives", 1))
            self.assertEqual(self.left(way, 40), (("faults", ("long",)), ((1, 0), ((1,), ()))))

    def test_faults_are_counted_too(self):
        ways = [lambda hand, row: hand.fail("a"), lambda hand, row: row.__setitem__(3, 2)]
        ways.append(lambda hand, row: [row.__iadd__(1), row.__iadd__(1)])
        for way, word in zip(ways, ("a", "index", "full"), strict=True):
            self.assertEqual(self.left(way, 38)[0], ("faults", (word,)))
            self.assertEqual(self.left(way, 40)[0], ("faults", ("long",)))

    def test_what_faults_counts_as_a_thing(self):
        def work(hand, row):
            for _ in range(20):
                hand.tried(lambda: row.__setitem__(3, 2), lambda word: 0)
            return hand.cell("c") if hand is None else 1

        setup = several(work=(work, "r"))
        self.assertEqual(call(setup, "work", "p")[0], ("gives", 1))

        def more(hand, row):
            work(hand, row)
            hand.cell("c")

        self.assertEqual(call(several(work=(more, "r")), "work", "p")[0], ("faults", ("long",)))

    def test_all_behind_the_41st_are_long(self):
        def work(hand):
            fill(hand, 40)
            for _ in range(3):
                with self.assertRaises(Fault) as told:
                    hand.put("c", 3)
                self.assertEqual(told.exception.words, ("long",))
            return 2

        self.assertEqual(told_of(work), (("gives", 2), ((1, 0), ((1,), ()))))

    def test_reads_and_signs_are_no_things(self):
        def work(hand, row, x):
            for _ in range(50):
                row[0], row.has(0), len(row), x + 1, x < 2, -x, x // 1
            fill(hand, 40)
            return row[0]

        self.assertEqual(told_of(work, "rn", ("p", 3))[0], ("gives", 1))

    def test_counted_for_the_run_that_does_them(self):
        def inner(hand, row):
            fill(hand, 39)
            row += 3
            return 1

        def outer(hand, row):
            fill(hand, 20)
            hand.call("inner", row)
            fill(hand, 18)
            row[0] = 2
            return 3

        setup = several(inner=(inner, "r"), outer=(outer, "r"))
        self.assertEqual(call(setup, "outer", "p"), (("gives", 3), ((1, 0), ((2, 3), ()))))

        def longer(hand, row):
            outer(hand, row)
            row[0] = 3

        setup = several(inner=(inner, "r"), outer=(longer, "r"))
        self.assertEqual(call(setup, "outer", "p"), (("faults", ("long",)), ((1, 0), ((2, 3), ()))))

    def test_a_called_work_that_is_long(self):
        def inner(hand, row):
            fill(hand, 40)
            row += 3

        def outer(hand, row):
            fill(hand, 5)
            with self.assertRaises(Fault):
                hand.call("inner", row)
            fill(hand, 34)
            with self.assertRaises(Fault) as told:
                row[0] = 2
            self.assertEqual(told.exception.words, ("long",))
            return 1

        setup = several(inner=(inner, "r"), outer=(outer, "r"))
        self.assertEqual(call(setup, "outer", "p"), (("gives", 1), ((1, 0), ((1,), ()))))

    def test_tried_takes_no_long_of_look(self):
        def never(word):
            raise AssertionError(word)

        def look(hand):
            fill(hand, 40)

        self.assertEqual(told_of(lambda hand: hand.tried(lambda: look(hand), never))[0], ("faults", ("long",)))
        self.assertEqual(told_of(lambda hand: hand.tried(lambda: hand.fail("long"), never))[0], ("faults", ("long",)))
        setup = several(inner=(lambda hand: look(hand) or hand.cell("c"), ""),
                        outer=(lambda hand: hand.tried(lambda: hand.call("inner"), never), ""))
        self.assertEqual(call(setup, "outer")[0], ("faults", ("long",)))

    def test_a_long_of_other_gets_the_words_of_the_first(self):
        def other(hand):
            return lambda word: fill(hand, 40)

        self.assertEqual(told_of(lambda hand: hand.tried(lambda: hand.fail("a"), other(hand)))[0],
                         ("faults", ("long", "a")))

        def never(word):
            raise AssertionError(word)

        def work(hand):
            return hand.tried(lambda: hand.tried(lambda: hand.fail("a"), other(hand)), never)

        self.assertEqual(told_of(work)[0], ("faults", ("long", "a")))


class Depths(unittest.TestCase):
    """A call that would stand 4 deep is not done."""

    def test_calls_that_call_themselves(self):
        def work(hand, x):
            hand.put("c", hand.cell("c") + 1)
            if x == 0:
                return hand.cell("c")
            return hand.call("work", x - 1) + 1

        setup = setup_of(work, "n")
        found = [plainly(setup, setup.world.first, ("call", "work", (x,))) for x in range(4)]
        self.assertEqual([told for told, _ in found], [("gives", 2), ("gives", 0), ("gives", 2), ("faults", ("deep",))])
        self.assertEqual([stand[0][0] for _, stand in found], [2, 3, 0, 0])

    def test_calls_by_turns(self):
        setup = several(a=(lambda hand: hand.call("b"), ""), b=(lambda hand: hand.call("c"), ""),
                        c=(lambda hand: hand.tried(lambda: hand.call("a"), lambda word: 3), ""))
        self.assertEqual(call(setup, "a")[0], ("gives", 3))
        setup = several(a=(lambda hand: hand.call("b"), ""), b=(lambda hand: hand.call("c"), ""),
                        c=(lambda hand: [hand.call("a"), hand.put("d", 3)][0], ""))
        self.assertEqual(call(setup, "a"), (("faults", ("deep",)), setup.world.first))

    def test_behind_a_call_the_depth_is_as_ahead(self):
        def work(hand, x):
            if x == 0:
                return 1
            return hand.call("work", x - 1) + hand.call("work", x - 1)

        self.assertEqual(told_of(work, "n", (2,))[0], ("gives", 0))

        def faulting(hand, x):
            if x == 0:
                return hand.fail("a")
            hand.tried(lambda: hand.call("work", x - 1), lambda word: 0)
            return hand.tried(lambda: hand.call("work", x - 1), lambda word: 1)

        self.assertEqual(told_of(faulting, "n", (2,))[0], ("gives", 1))

    def test_a_call_too_deep_is_a_thing(self):
        def work(hand, x):
            if x > 0:
                return hand.call("work", x - 1)
            fill(hand, 39)
            hand.tried(lambda: hand.cell("c"), lambda word: 0)

        self.assertEqual(told_of(work, "n", (2,))[0], ("faults", ("long",)))

        def other(hand, x):
            if x > 0:
                return hand.call("work", x - 1)
            fill(hand, 40)
            return hand.call("work", 0)

        self.assertEqual(told_of(other, "n", (2,))[0], ("faults", ("long",)))


class Answers(unittest.TestCase):

    def test_numbers_of_the_size(self):
        for size in (2, 3, 4):
            world = World(size, 1, (), ())
            for worth in range(size):
                for answer in (worth, Number(size, worth)):
                    found = told_of(lambda hand: answer, world=world)
                    self.assertEqual(found, (("gives", worth), ((), ())))
                    self.assertTrue(is_plain(found[0][1]))

    def test_all_others_are_of_no_kind(self):
        for size in (2, 3, 4):
            world = World(size, 1, (), ())
            for answer in any_values() + [size, [0], (0,), Number, world]:
                if is_plain(answer) and 0 <= answer < size or isinstance(answer, Number) and answer.size == size:
                    continue
                self.assertEqual(told_of(lambda hand: answer, world=world)[0], ("faults", ("kind",)))

    def test_of_a_called_work_too(self):
        for answer in (None, True, 4, -1, Number(3, 1), "a", ()):
            setup = several(inner=(lambda hand: [hand.put("c", 3), answer][1], ""), outer=(lambda hand: hand.call("inner"), ""))
            self.assertEqual(call(setup, "outer"), (("faults", ("kind",)), ((3, 0), ((1,), ()))))

    def test_what_was_done_ahead_of_a_fault_stays(self):
        def work(hand, row, x):
            hand.put("c", x)
            row[0] = x
            row += 2
            return row[3]

        self.assertEqual(told_of(work, "rn", ("p", 3)), (("faults", ("index",)), ((3, 0), ((3, 2), ()))))

    def test_equal_calls_tell_the_same(self):
        setup = setup_of(lambda hand: [hand.put("c", hand.cell("c") + 1), hand.cell("c")][1])
        stand = ((1, 0), ((1,), ()))
        found = [plainly(setup, stand, ("call", "work", ())) for _ in range(3)]
        self.assertEqual(found, [(("gives", 2), ((2, 0), ((1,), ())))] * 3)
        self.assertEqual((stand, setup.world.first), (((1, 0), ((1,), ())), ((1, 0), ((1,), ()))))


class Deeds(unittest.TestCase, Refusing):

    world = World(3, 2, (("c", 1), ("d", 0)), (("p", (1,)), ("q", ())), ("c", "q"))
    setup = Setup(world, (("a", lambda hand: 0, ""), ("b", lambda hand, x, row: x, "nr")), 1)

    def test_a_change_tells_none(self):
        stand = ((2, 1), ((), (2, 2)))
        for worth in range(3):
            found = plainly(self.setup, stand, ("change", "c", worth))
            self.assertEqual(found, (None, ((worth, 1), ((), (2, 2)))))
        for items in ((), (1,), (2, 0), (2, 2)):
            self.assertEqual(plainly(self.setup, stand, ("change", "q", items)), (None, ((2, 1), ((), items))))

    def test_all_deeds_are_taken_from_all_stands(self):
        for deed in self.setup.deeds:
            for stand in (self.world.first, ((2, 2), ((0, 0), (1,)))):
                by_name = plainly(deed=deed, stand=stand, setup=self.setup)
                self.assertEqual(by_name, plainly(self.setup, stand, deed))
                if deed[0] == "call":
                    self.assertEqual(by_name, (("gives", sum(deed[2][:1])), stand))

    def no_stands(self):
        found = any_values() + [((1, 0), [(1,), ()]), ([1, 0], ((1,), ())), [(1, 0), ((1,), ())], ((1, 0),)]
        found += [((1, 0), ((1,), ()), ()), ((1,), ((1,), ())), ((1, 0, 0), ((1,), ())), ((1, 0), ((1,),))]
        found += [((1, 0), ((1,), (), ())), ((1, 3), ((1,), ())), ((-1, 0), ((1,), ())), ((True, 0), ((1,), ()))]
        found += [((1, 0), ((3,), ())), ((1, 0), ((-1,), ())), ((1, 0), ((True,), ())), ((1, 0), ((1,), (1, 1, 1)))]
        found += [((1, 0), ([1], ())), ((1, 0), (1, ())), ((1, None), ((1,), ())), ((1, 0), ("1", ())), ((), ())]
        return found + [(((1, 0),), ((1,), ())), ((1, Number(3, 0)), ((1,), ())), ((1, 0), ((Number(3, 0),), ()))]

    def no_deeds(self):
        found = any_values() + [["call", "a", ()], ("call", "a"), ("call", "a", (), ()), ("call", "c", ()), ("call", "", ())]
        found += [("call", "a", []), ("call", "a", (0,)), ("call", "a", None), ("call", ["a"], ()), ("call", b"a", ())]
        found += [("call", "b", ()), ("call", "b", (0,)), ("call", "b", (0, "r")), ("call", "b", ("p", 0))]
        found += [("call", "b", (3, "p")), ("call", "b", (-1, "p")), ("call", "b", (True, "p")), ("call", "b", [0, "p"])]
        found += [("call", "b", (0, "c")), ("call", "b", (0, ("p",))), ("call", "b", (0, None)), ("call", "b", (0, "p", 0))]
        found += [("call", "b", (Number(3, 0), "p")), ("call", "b", ("0", "p")), ("Call", "a", ()), (b"call", "a", ())]
        found += [("change", "d", 0), ("change", "p", ()), ("change", "a", 0), ("change", "c", 3), ("change", "c", -1)]
        found += [("change", "c", True), ("change", "c", (0,)), ("change", "c", ()), ("change", "c", None)]
        found += [("change", "q", 0), ("change", "q", [0]), ("change", "q", (3,)), ("change", "q", (0, 0, 0))]
        found += [("change", "q", (True,)), ("change", "c"), ["change", "c", 0], ("change", ["c"], 0), (None, "c", 0)]
        return found + [("change", "call", 0), ("changes", "c", 0), (["call"], "a", ()), ("call", None, ()), (0, 0, 0)]

    def test_what_is_no_stand(self):
        for value in self.no_stands():
            self.refused(BadStand, value, plainly, self.setup, value, ("call", "a", ()))
            self.refused(BadStand, value, plainly, deed=("call", "a", ()), stand=value, setup=self.setup)

    def test_what_is_no_deed(self):
        for value in self.no_deeds():
            self.refused(BadDeed, value, plainly, self.setup, self.world.first, value)
            self.refused(BadDeed, value, plainly, deed=value, stand=self.world.first, setup=self.setup)

    def test_a_stand_is_told_ahead_of_a_deed(self):
        for stand, deed in zip(self.no_stands(), itertools.cycle(self.no_deeds())):
            self.refused(BadStand, stand, plainly, self.setup, stand, deed)

    def test_where_there_are_no_cells_and_no_rows(self):
        bare = Setup(World(2, 1, (), ()), (("a", lambda hand: 1, ""),), 1)
        self.assertEqual(plainly(bare, ((), ()), ("call", "a", ())), (("gives", 1), ((), ())))
        for value in ((), ((), (), ()), ((0,), ()), ((), ((),)), ((), []), ([], ()), (None, ())):
            self.refused(BadStand, value, plainly, bare, value, ("call", "a", ()))

    def test_the_function_is_as_listed(self):
        self.assertEqual(plainly.__module__, "tapedonce.plain")
        self.assertEqual([*inspect.signature(plainly).parameters], ["setup", "stand", "deed"])


class Scripts(unittest.TestCase):
    """Works made by chance, beside the reckoning of the tests."""

    worlds = [
        World(2, 1, (("c", 1),), ()), World(3, 2, (), (("p", (1,)), ("q", ()))),
        World(4, 2, (("c", 1), ("d", 3)), (("p", (2,)),)), World(2, 1, (("c", 0),), (("p", ()), ("q", (1,)))),
    ]

    def test_all_calls_of_many_setups(self):
        for seed in range(240):
            world = self.worlds[seed // 60]
            rows = "r" if world.rows else "n"
            kinds = [{"v": "n", "w": ""}, {"u": "n", "v": rows, "w": ""}, {"w": rows + "n"}][seed % 3]
            maker = Maker(seed, world.size, [name for name, _ in world.cells], [name for name, _ in world.rows], kinds)
            scripts = {name: maker.script(name) for name in kinds}
            works = tuple((name, work_of(world.size, scripts[name]), kinds[name]) for name in kinds)
            setup, stand = Setup(world, works, 1), world.first
            for deed in setup.deeds:
                found = plainly(setup, stand, deed)
                self.assertEqual(found, reckoned_plainly(world, scripts, kinds, stand, deed), (seed, deed))
                stand = found[1]


class Examples(unittest.TestCase):

    def test_what_is_put_stays_though_another_thing_is_tried(self):
        def share(hand, x):
            return [hand.put("c", hand.cell("c") + 1), hand.tried(lambda: 3 // x, lambda word: 0)][1]

        setup = Setup(World(4, 1, (("c", 3),), ()), (("share", share, "n"),), 1)
        found = [plainly(setup, ((3,), ()), ("call", "share", (2,))), plainly(setup, ((0,), ()), ("call", "share", (0,)))]
        self.assertEqual(found, [(("gives", 1), ((0,), ())), (("gives", 0), ((1,), ()))])


if __name__ == "__main__":
    unittest.main()
