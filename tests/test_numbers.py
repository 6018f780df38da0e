"""Section 4: numbers, their errors, signs and comparisons."""

import inspect
import itertools
import operator
import unittest

from tapedonce import numbers
from tapedonce.errors import BadSize, BadWorth, Fault
from tapedonce.numbers import Number
from tests.values import any_values, is_plain

SIZES = (2, 3, 4)

GOING_ROUND = {"+": operator.add, "-": operator.sub, "*": operator.mul}

COMPARING = {
    "==": operator.eq, "!=": operator.ne, "<": operator.lt,
    "<=": operator.le, ">": operator.gt, ">=": operator.ge,
}


def pairs():
    """Each size with each two worths of it."""
    for size in SIZES:
        for one, other in itertools.product(range(size), repeat=2):
            yield size, one, other


def sides(size, one, other):
    """Two worths as the sides of a sign: as two Numbers, and as a Number beside an integer."""
    yield "Number, Number", Number(size, one), Number(size, other)
    yield "Number, integer", Number(size, one), other
    yield "integer, Number", one, Number(size, other)


def plain(value):
    """What a side tells: its size, if it has one, and its worth."""
    if isinstance(value, Number):
        return value.size, value.worth
    return None, value


class Signs(unittest.TestCase):

    def check_number(self, found, size, worth):
        self.assertIs(found.__class__, Number)
        self.assertTrue(is_plain(found.size) and is_plain(found.worth))
        self.assertEqual((found.size, found.worth), (size, worth))

    def test_plus_minus_times_go_round(self):
        for size, one, other in pairs():
            for sign, act in GOING_ROUND.items():
                for how, left, right in sides(size, one, other):
                    with self.subTest(size=size, one=one, sign=sign, other=other, how=how):
                        self.check_number(act(left, right), size, act(one, other) % size)

    def test_quotients_are_rounded_down(self):
        for size, one, other in pairs():
            for how, left, right in sides(size, one, other):
                with self.subTest(size=size, one=one, other=other, how=how):
                    if other == 0:
                        with self.assertRaises(Fault) as told:
                            left // right
                        self.assertEqual(told.exception.words, ("zero",))
                    else:
                        self.check_number(left // right, size, one // other)

    def test_minus_alone(self):
        for size in SIZES:
            for worth in range(size):
                with self.subTest(size=size, worth=worth):
                    self.check_number(-Number(size, worth), size, (size - worth) % size)

    def test_some_results_by_hand(self):
        found = [Number(4, 3) + 2, 1 - Number(4, 3), 2 * Number(4, 3), Number(4, 3) // 2, 3 // Number(4, 2)]
        self.assertEqual([number.worth for number in found], [1, 2, 2, 1, 1])
        found = [-Number(2, 1), -Number(3, 1), -Number(4, 1), -Number(3, 0), Number(3, 2) * Number(3, 2)]
        self.assertEqual([number.worth for number in found], [1, 2, 3, 0, 1])

    def test_the_rest_of_a_sum(self):
        for size, one, other in pairs():
            if other:
                for how, a, b in sides(size, one, other):
                    with self.subTest(size=size, one=one, other=other, how=how):
                        self.check_number(a - a // b * b, size, one % other)

    def test_comparisons_tell_bools(self):
        for size, one, other in pairs():
            for sign, ask in COMPARING.items():
                for how, left, right in sides(size, one, other):
                    with self.subTest(size=size, one=one, sign=sign, other=other, how=how):
                        self.assertIs(ask(left, right), ask(one, other))

    def test_a_number_beside_itself(self):
        for size in SIZES:
            for worth in range(size):
                number = Number(size, worth)
                found = [ask(number, number) for ask in COMPARING.values()]
                self.assertEqual(found, [True, False, False, True, False, True])
                self.check_number(number - number, size, 0)

    def test_operands_stay(self):
        for size, one, other in pairs():
            for sign, act in [*GOING_ROUND.items(), *COMPARING.items(), ("//", operator.floordiv)]:
                for how, left, right in sides(size, one, other):
                    ahead = plain(left), plain(right)
                    try:
                        act(left, right)
                    except Fault:
                        pass
                    with self.subTest(size=size, one=one, sign=sign, other=other, how=how):
                        self.assertEqual((plain(left), plain(right)), ahead)

    def test_the_operand_of_minus_stays(self):
        number = Number(4, 1)
        -number
        self.assertEqual(plain(number), (4, 1))

    def test_signs_in_place_make_new_numbers(self):
        for act, worth in (
                (operator.iadd, 1), (operator.isub, 1), (operator.imul, 2), (operator.ifloordiv, 1)):
            with self.subTest(act=act.__name__):
                number = Number(4, 3)
                self.check_number(act(number, 2), 4, worth)
                self.check_number(number, 4, 3)


class Asked:
    """Something that answers itself where it is the other side of a sign."""

    def answer(self, _other):
        return self

    __radd__ = __rsub__ = __rmul__ = __rfloordiv__ = answer
    __eq__ = __ne__ = __lt__ = __le__ = __gt__ = __ge__ = answer


class OtherSides(unittest.TestCase):
    """What is neither a Number nor an integer answers for itself (section 7 leans on this)."""

    def test_the_other_side_is_asked(self):
        asked = Asked()
        for act in [*GOING_ROUND.values(), operator.floordiv, *COMPARING.values()]:
            with self.subTest(act=act.__name__):
                self.assertIs(act(Number(3, 1), asked), asked)

    def test_who_has_no_answer_makes_a_type_error(self):
        for act in [*GOING_ROUND.values(), operator.floordiv, operator.lt]:
            for left, right in ((Number(3, 1), "1"), ("1", Number(3, 1))):
                with self.subTest(act=act.__name__, left=left), self.assertRaises(TypeError):
                    act(left, right)


class RowsOfSigns(unittest.TestCase):
    """Signs upon what the one ahead made."""

    ACTS = ("+", "-", "*", "//", "r-", "r//", "neg")

    def plainly(self, size, worth, act, by):
        """The worth behind one act, None behind a Fault."""
        upper, lower = (by, worth) if act == "r//" else (worth, by)
        if act in ("//", "r//"):
            return upper // lower if lower else None
        results = {"+": worth + by, "-": worth - by, "*": worth * by, "r-": by - worth, "neg": -worth}
        return results[act] % size

    def by_number(self, number, act, by):
        if act == "neg":
            return -number
        signs = {"+": operator.add, "-": operator.sub, "*": operator.mul, "//": operator.floordiv}
        sides_of = (by, number) if act[0] == "r" else (number, by)
        return signs[act.lstrip("r")](*sides_of)

    def follow(self, size, worth, deeds):
        """Does the deeds, each with an integer and with a Number in turn, until one faults."""
        number = Number(size, worth)
        for at, (act, by) in enumerate(deeds):
            side = Number(size, by) if (at + worth) % 2 else by
            worth = self.plainly(size, worth, act, by)
            if worth is None:
                with self.assertRaises(Fault) as told:
                    self.by_number(number, act, side)
                self.assertEqual(told.exception.words, ("zero",))
                return
            number = self.by_number(number, act, side)
            self.assertEqual((number.size, number.worth), (size, worth), (size, deeds, at))

    def test_all_rows_of_three(self):
        for size in SIZES:
            steps = [*itertools.product(self.ACTS, range(size))]
            for deeds in itertools.product(steps, repeat=3):
                self.follow(size, (len(deeds[0][0]) + deeds[2][1]) % size, deeds)

    def test_long_rows(self):
        for size in SIZES:
            for start in range(size):
                for stride in range(1, 30):
                    acts = [self.ACTS[at * stride % 7] for at in range(60)]
                    deeds = [(act, 1 + at * at % (size - 1)) for at, act in enumerate(acts)]
                    self.follow(size, start, deeds)


class Making(unittest.TestCase):

    def refused(self, error, value, *values, **more):
        with self.assertRaises(error) as told:
            Number(*values, **more)
        self.assertIs(told.exception.__class__, error)
        self.assertIs(told.exception.value, value)

    def test_all_numbers(self):
        for size in SIZES:
            for worth in range(size):
                for number in (Number(size, worth), Number(size=size, worth=worth), Number(worth=worth, size=size)):
                    self.assertEqual(plain(number), (size, worth))

    def test_what_is_no_size(self):
        for value in any_values():
            if not (is_plain(value) and value in SIZES):
                with self.subTest(value=repr(value)[:60]):
                    self.refused(BadSize, value, value, 0)
                    self.refused(BadSize, value, size=value, worth=0)

    def test_what_is_no_worth(self):
        for size in SIZES:
            for value in any_values():
                if not (is_plain(value) and 0 <= value < size):
                    with self.subTest(size=size, value=repr(value)[:60]):
                        self.refused(BadWorth, value, size, value)
                        self.refused(BadWorth, value, worth=value, size=size)

    def test_next_to_the_bounds(self):
        for value in (1, 5):
            self.refused(BadSize, value, value, 0)
        for size in SIZES:
            for value in (-1, size, size + 1):
                self.refused(BadWorth, value, size, value)
            self.assertEqual([Number(size, 0).worth, Number(size, size - 1).worth], [0, size - 1])

    def test_the_size_is_told_first(self):
        for size, worth in ((1, -1), (5, 5), (True, True), (None, None), ("2", "1"), ([], {})):
            with self.subTest(size=size, worth=worth):
                self.refused(BadSize, size, size, worth)
                self.refused(BadSize, size, worth=worth, size=size)

    def test_the_class_is_as_listed(self):
        self.assertEqual(Number.__module__, "tapedonce.numbers")
        self.assertIs(numbers.Number, Number)
        self.assertEqual([*inspect.signature(Number).parameters], ["size", "worth"])
        signs = "add radd sub rsub mul rmul floordiv rfloordiv neg eq ne lt le gt ge".split()
        for name in ["size", "worth", *[f"__{sign}__" for sign in signs]]:
            self.assertIn(name, vars(Number))


class Examples(unittest.TestCase):

    def test_the_quotient_by_zero(self):
        with self.assertRaises(Fault) as told:
            Number(3, 2) // Number(3, 0)
        self.assertEqual(told.exception.words, ("zero",))


if __name__ == "__main__":
    unittest.main()
