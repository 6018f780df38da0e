"""Section 2 and the interface: the errors and what they keep."""

import unittest

from tapedonce import errors
from tests.values import any_values

WITH_VALUE = (
    "BadSize BadWorth BadMost BadItems BadWorld BadSetup BadStand BadDeed BadPlan BadKinds BadSteps BadEnd "
    "NoWork BadValues BadState BadTape BadStory BadNames BadPrices BadDoing NoKey BadChecks BadPlace NoTape "
    "NoName BadThing BadRoom BadCommand"
).split()

ATTRIBUTES = {name: "value" for name in WITH_VALUE}
ATTRIBUTES.update({"Fault": "words", "TooMany": "number", "BadLine": "number", "BadBytes": "at", "Wrong": "story"})

WITHOUT = ("Empty", "NothingToUndo", "NothingToRedo")

# So many errors the interface lists: none is lost from the lists above unseen.
HOW_MANY = 28 + 5 + 3


def named(name):
    return getattr(errors, name)


class Kept(unittest.TestCase):
    """Each error keeps the very value under the name of its attribute."""

    def check_kept(self, error, attribute, value):
        self.assertEqual([*vars(error)], [attribute])
        self.assertIs(getattr(error, attribute), value)

    def test_by_position(self):
        for name, attribute in ATTRIBUTES.items():
            for value in any_values():
                with self.subTest(error=name, value=repr(value)[:60]):
                    self.check_kept(named(name)(value), attribute, value)

    def test_by_name(self):
        for name, attribute in ATTRIBUTES.items():
            for value in any_values():
                with self.subTest(error=name, value=repr(value)[:60]):
                    self.check_kept(named(name)(**{attribute: value}), attribute, value)

    def test_what_is_raised_and_caught(self):
        for name, attribute in ATTRIBUTES.items():
            value = [name]
            for caught in (named(name), errors.TapeError, ValueError):
                with self.subTest(error=name, caught=caught.__name__):
                    with self.assertRaises(caught) as told:
                        raise named(name)(value)
                    self.check_kept(told.exception, attribute, value)

    def test_what_is_kept_is_no_copy(self):
        for name, attribute in ATTRIBUTES.items():
            with self.subTest(error=name):
                value = []
                error = named(name)(value)
                value.append(1)
                self.assertEqual(getattr(error, attribute), [1])

    def test_errors_do_not_share_what_they_keep(self):
        for name, attribute in ATTRIBUTES.items():
            with self.subTest(error=name):
                one, other = named(name)("one"), named(name)("other")
                self.assertEqual([getattr(one, attribute), getattr(other, attribute)], ["one", "other"])

    def test_without_arguments(self):
        for name in WITHOUT:
            with self.subTest(error=name):
                self.assertEqual(vars(named(name)()), {})
                for caught in (named(name), errors.TapeError, ValueError):
                    with self.assertRaises(caught):
                        raise named(name)()


class Family(unittest.TestCase):
    """All errors stand directly below TapeError, and beside one another."""

    def made(self):
        with_value = [named(name)(0) for name in ATTRIBUTES]
        return with_value + [named(name)() for name in WITHOUT]

    def test_the_base(self):
        self.assertEqual(errors.TapeError.__bases__, (ValueError,))
        self.assertEqual(errors.TapeError.__module__, "tapedonce.errors")

    def test_each_directly_below_the_base(self):
        for error in self.made():
            with self.subTest(error=error.__class__.__name__):
                self.assertIsInstance(error, errors.TapeError)
                self.assertIsInstance(error, ValueError)
                self.assertEqual(error.__class__.__bases__, (errors.TapeError,))

    def test_each_is_none_of_the_others(self):
        names = [*ATTRIBUTES, *WITHOUT]
        for name, error in zip(names, self.made(), strict=True):
            found = [other for other in names if isinstance(error, named(other))]
            self.assertEqual(found, [name])

    def test_each_has_its_name_and_stands_in_its_file(self):
        names = [*ATTRIBUTES, *WITHOUT]
        self.assertEqual(len({*names}), HOW_MANY)
        for name in names:
            with self.subTest(error=name):
                self.assertEqual(named(name).__name__, name)
                self.assertEqual(named(name).__module__, "tapedonce.errors")


if __name__ == "__main__":
    unittest.main()
