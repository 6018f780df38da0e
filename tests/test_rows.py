"""Section 4: rows, their errors, reads, sets, pushes and faults."""

import inspect
import itertools
import unittest

from tapedonce import rows
from tapedonce.errors import BadItems, BadMost, BadSize, Fault
from tapedonce.numbers import Number
from tapedonce.rows import Row
from tests.values import any_values, is_plain

SIZES = (2, 3, 4)
MOSTS = (1, 2)


def all_items(size, most):
    """All tuples of items that a row may have."""
    for many in range(most + 1):
        yield from itertools.product(range(size), repeat=many)


def all_rows():
    for size, most in itertools.product(SIZES, MOSTS):
        for items in all_items(size, most):
            yield size, most, items


def both(size, worth):
    """A worth as it may be passed."""
    return worth, Number(size, worth)


def good_items(value, size, most):
    if not isinstance(value, tuple) or len(value) > most:
        return False
    return all(is_plain(item) and 0 <= item < size for item in value)


class Making(unittest.TestCase):

    def refused(self, error, value, *values, **more):
        with self.assertRaises(error) as told:
            Row(*values, **more)
        self.assertIs(told.exception.__class__, error)
        self.assertIs(told.exception.value, value)

    def test_all_rows(self):
        for size, most, items in all_rows():
            with self.subTest(size=size, most=most, items=items):
                by_name = Row(items=items, most=most, size=size)
                for row in (Row(size, most, items), by_name):
                    self.assertEqual((row.worths, len(row)), (items, len(items)))

    def test_what_is_no_size(self):
        for value in any_values():
            if not (is_plain(value) and value in SIZES):
                with self.subTest(value=repr(value)[:60]):
                    self.refused(BadSize, value, value, 1, ())
                    self.refused(BadSize, value, items=(), most=1, size=value)

    def test_what_is_no_most(self):
        for value in any_values():
            if not (is_plain(value) and value in MOSTS):
                for size in SIZES:
                    with self.subTest(size=size, value=repr(value)[:60]):
                        self.refused(BadMost, value, size, value, ())
                        self.refused(BadMost, value, items=(), most=value, size=size)

    def test_what_are_no_items(self):
        for size, most in itertools.product(SIZES, MOSTS):
            for value in any_values():
                if not good_items(value, size, most):
                    with self.subTest(size=size, most=most, value=repr(value)[:60]):
                        self.refused(BadItems, value, size, most, value)
                        self.refused(BadItems, value, items=value, most=most, size=size)

    def test_items_next_to_the_bounds(self):
        for size, most in itertools.product(SIZES, MOSTS):
            wrong = [(size,), (-1,), (0,) * (most + 1), (True,), (False,), (None,), ("0",), (b"\x00",), ((0,),)]
            wrong += [(Number(size, 0),), [0], "0", b"\x00", {0: 0}, None, 0, Row(size, most, ())]
            if most == 2:
                wrong += [(0, size), (size, 0), (0, -1), (0, True), (False, 0), (0, Number(size, 1))]
            for value in wrong:
                with self.subTest(size=size, most=most, value=repr(value)):
                    self.refused(BadItems, value, size, most, value)
            self.assertEqual(Row(size, most, (size - 1,) * most).worths, (size - 1,) * most)

    def test_the_first_wrong_parameter_is_told(self):
        for wrong in (None, True, "2", (9,), [], {}, 7, -1):
            self.refused(BadSize, wrong, wrong, wrong, wrong)
            self.refused(BadSize, wrong, wrong, 1, wrong)
            self.refused(BadSize, wrong, wrong, wrong, ())
            self.refused(BadMost, wrong, 3, wrong, wrong)
            self.refused(BadSize, wrong, items=wrong, most=wrong, size=wrong)
            self.refused(BadMost, wrong, items=wrong, most=wrong, size=2)

    def test_the_class_is_as_listed(self):
        self.assertEqual(Row.__module__, "tapedonce.rows")
        self.assertIs(rows.Row, Row)
        self.assertEqual([*inspect.signature(Row).parameters], ["size", "most", "items"])
        self.assertEqual([*inspect.signature(Row.has).parameters], ["self", "i"])
        for name in ("__getitem__", "__setitem__", "__iadd__", "__len__", "has", "worths"):
            self.assertIn(name, vars(Row))


class Doing(unittest.TestCase):
    """One thing that is done with each row there is."""

    def check_number(self, found, size, worth):
        self.assertIs(found.__class__, Number)
        self.assertTrue(is_plain(found.worth))
        self.assertEqual((found.size, found.worth), (size, worth))

    def check_row(self, row, items):
        """What all looks at a row tell."""
        worths = row.worths
        self.assertIs(worths.__class__, tuple)
        self.assertTrue(all(is_plain(worth) for worth in worths))
        self.assertEqual(worths, items)
        self.assertEqual(len(row), len(items))

    def check_fault(self, words, act):
        with self.assertRaises(Fault) as told:
            act()
        self.assertEqual(told.exception.words, words)
        self.assertIs(told.exception.words.__class__, tuple)

    def test_reads(self):
        for size, most, items in all_rows():
            row = Row(size, most, items)
            for at in range(size):
                for i in both(size, at):
                    with self.subTest(size=size, most=most, items=items, i=at):
                        if at < len(items):
                            self.check_number(row[i], size, items[at])
                        else:
                            self.check_fault(("index",), lambda: row[i])
                        self.check_row(row, items)

    def test_sets(self):
        for size, most, items in all_rows():
            for at, worth in itertools.product(range(size), repeat=2):
                for i, x in itertools.product(both(size, at), both(size, worth)):
                    with self.subTest(size=size, most=most, items=items, i=at, x=worth):
                        self.check_set(Row(size, most, items), items, i, x, (at, worth))

    def check_set(self, row, items, i, x, plain):
        def act():
            row[i] = x

        at, worth = plain
        if at < len(items):
            act()
            self.check_row(row, items[:at] + (worth,) + items[at + 1:])
        else:
            self.check_fault(("index",), act)
            self.check_row(row, items)

    def test_pushes(self):
        for size, most, items in all_rows():
            for worth in range(size):
                for x in both(size, worth):
                    with self.subTest(size=size, most=most, items=items, x=worth):
                        self.check_push(Row(size, most, items), most, items, x, worth)

    def check_push(self, row, most, items, x, worth):
        first = row
        if len(items) == most:
            with self.assertRaises(Fault) as told:
                row += x
            self.assertEqual(told.exception.words, ("full",))
            self.check_row(row, items)
        else:
            row += x
            self.check_row(row, items + (worth,))
        self.assertIs(row, first)

    def test_has(self):
        for size, most, items in all_rows():
            row = Row(size, most, items)
            for at in range(size):
                for i in both(size, at):
                    with self.subTest(size=size, most=most, items=items, i=at):
                        self.assertIs(row.has(i), at < len(items))
                        self.assertIs(row.has(i=i), at < len(items))
                        self.check_row(row, items)

    def test_what_is_read_stays_when_the_row_changes(self):
        row = Row(4, 2, (1, 2))
        number, worths = row[0], row.worths
        row[0] = 3
        self.assertEqual((number.worth, worths, row[0].worth), (1, (1, 2), 3))

    def test_what_is_put_stays_as_it_was(self):
        row, number, items = Row(4, 2, (1,)), Number(4, 3), (1,)
        other = Row(4, 2, items)
        row[Number(4, 0)] = number
        row += number
        row[0] = row[1] + 2
        self.assertEqual((row.worths, number.worth, number.size), ((1, 3), 3, 4))
        self.assertEqual((other.worths, items), ((1,), (1,)))

    def test_a_pushed_row_is_seen_by_all_its_names(self):
        row = Row(3, 2, ())
        kept, held = row, [row]
        row += 2
        kept += Number(3, 1)
        held[0][0] = 1
        self.assertIs(kept, row)
        self.assertEqual((row.worths, len(kept)), ((1, 1), 2))

    def test_rows_are_not_iterated_over(self):
        with self.assertRaises(TypeError):
            list(Row(3, 1, (1,)))


class LedThrough(unittest.TestCase):
    """Rows of deeds with one row, beside a list that does the same."""

    def deeds(self, size):
        """Deeds at the places that are near the bounds, with integers and Numbers in turn."""
        places = [0, Number(size, 1)] + ([2] if size > 2 else [])
        found = [("get", i, None) for i in places] + [("set", i, size - 1) for i in places]
        found += [("set", Number(size, 0), Number(size, 1)), ("push", None, 1), ("push", None, Number(size, 0))]
        return found + [("has", 1, None), ("has", Number(size, 0), None)]

    def plainly(self, items, most, deed):
        """What a deed tells, a list of items being changed as the row is."""
        act, i, x = deed
        at, worth = [value.worth if isinstance(value, Number) else value for value in (i, x)]
        if act == "has":
            return at < len(items)
        if act == "push":
            if len(items) == most:
                return ("full",)
            return items.append(worth)
        if at >= len(items):
            return ("index",)
        if act == "get":
            return items[at]
        items[at] = worth
        return None

    def by_row(self, row, deed):
        act, i, x = deed
        try:
            if act == "has":
                return row.has(i)
            if act == "get":
                return row[i].worth
            if act == "push":
                row += x
            else:
                row[i] = x
        except Fault as fault:
            return fault.words
        return None

    def test_all_rows_of_three_deeds(self):
        for size, most in itertools.product(SIZES, MOSTS):
            starts = [(), (0,), (size - 1, 1)][:most + 1]
            for start in starts:
                for deeds in itertools.product(self.deeds(size), repeat=3):
                    self.follow(size, most, start, deeds)

    def follow(self, size, most, start, deeds):
        row, items = Row(size, most, start), list(start)
        for deed in deeds:
            told = self.plainly(items, most, deed)
            found = self.by_row(row, deed)
            self.assertEqual((found, row.worths, len(row)), (told, tuple(items), len(items)), (size, start, deeds))


class Examples(unittest.TestCase):

    def test_a_number_and_a_row(self):
        three, row = Number(4, 3), Row(4, 2, (1,))
        row[0] = three
        found = [(three + 2).worth, (1 - three).worth, (2 * three).worth, (three // 2).worth]
        found += [2 < three, row.worths, row.has(1)]
        self.assertEqual(found, [1, 2, 2, 1, True, (3,), False])


if __name__ == "__main__":
    unittest.main()
