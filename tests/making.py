"""What many tests make: worlds, setups of one work, and checks of what is refused."""

from tapedonce.plans import Plan
from tapedonce.taping import taped
from tapedonce.worlds import Setup, World


class Refusing:
    """For test cases: checks that a call raises an error, of that very class, that keeps the very value."""

    def refused(self, error, value, act, *values, **more):
        with self.assertRaises(error) as told:
            act(*values, **more)
        self.assertIs(told.exception.__class__, error)
        self.assertEqual([*vars(told.exception)], ["value"])
        self.assertIs(told.exception.value, value)

    def raises(self, error, attribute, value, act, *values, **more):
        """Likewise, but of a value that the call makes itself."""
        with self.assertRaises(error) as told:
            act(*values, **more)
        self.assertIs(told.exception.__class__, error)
        self.assertEqual(vars(told.exception), {attribute: value} if attribute else {})


def small_world(size=4, most=2):
    """Two cells and two rows."""
    return World(size, most, (("c", 1), ("d", 0)), (("p", (1,)), ("q", ())))


def setup_of(work, kinds="", world=None, room=1):
    """A setup of one work."""
    return Setup(world or small_world(), (("work", work, kinds),), room)


def tape_of(work, kinds="", values=(), plan=None, world=None, stand=None):
    """What taped tells of one work."""
    setup = setup_of(work, kinds, world)
    return taped(setup, plan or Plan(), stand or setup.world.first, "work", values)


def looks(work, kinds="", values=(), plan=None, world=None):
    """What a work of a taping run returns, whatever that is: for looks at carried values."""
    seen = []

    def looking(hand, *handed):
        seen.append(work(hand, *handed))
        return 0

    tape_of(looking, kinds, values, plan, world)
    return seen[0]
