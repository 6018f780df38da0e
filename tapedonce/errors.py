"""All errors of the package; each keeps what it was created with."""


class TapeError(ValueError):
    """What every error of the package is."""


class BadSize(TapeError):
    """What is no size of numbers."""

    def __init__(self, value):
        self.value = value


class BadWorth(TapeError):
    """What is no worth of a number of its size."""

    def __init__(self, value):
        self.value = value


class BadMost(TapeError):
    """What does not tell how many items a row has at most."""

    def __init__(self, value):
        self.value = value


class BadItems(TapeError):
    """What are no items of a row."""

    def __init__(self, value):
        self.value = value


class BadWorld(TapeError):
    """The first part that makes no world."""

    def __init__(self, value):
        self.value = value


class BadSetup(TapeError):
    """The first part that makes no setup."""

    def __init__(self, value):
        self.value = value


class BadStand(TapeError):
    """What is no stand of a world."""

    def __init__(self, value):
        self.value = value


class BadDeed(TapeError):
    """What is no deed of a setup."""

    def __init__(self, value):
        self.value = value


class BadPlan(TapeError):
    """The part that makes no plan, or a plan that does not fit."""

    def __init__(self, value):
        self.value = value


class BadKinds(TapeError):
    """What are no kinds of values."""

    def __init__(self, value):
        self.value = value


class BadSteps(TapeError):
    """What are no steps of a tape."""

    def __init__(self, value):
        self.value = value


class BadEnd(TapeError):
    """What is no end of a tape."""

    def __init__(self, value):
        self.value = value


class NoWork(TapeError):
    """What is the name of no work."""

    def __init__(self, value):
        self.value = value


class BadValues(TapeError):
    """What are no values of the kinds that are wanted."""

    def __init__(self, value):
        self.value = value


class BadState(TapeError):
    """What is no state of a setup."""

    def __init__(self, value):
        self.value = value


class BadTape(TapeError):
    """What is no tape, or none that can stand there."""

    def __init__(self, value):
        self.value = value


class BadStory(TapeError):
    """What is no tuple of deeds."""

    def __init__(self, value):
        self.value = value


class BadNames(TapeError):
    """What are no names to try as guards."""

    def __init__(self, value):
        self.value = value


class BadPrices(TapeError):
    """What are no prices of a setup."""

    def __init__(self, value):
        self.value = value


class BadDoing(TapeError):
    """What is no table of a doing."""

    def __init__(self, value):
        self.value = value


class NoKey(TapeError):
    """What is no key of a doing, a tape or a lot."""

    def __init__(self, value):
        self.value = value


class BadChecks(TapeError):
    """What are no numbers of checks of a tape."""

    def __init__(self, value):
        self.value = value


class BadPlace(TapeError):
    """What is no place in a lot."""

    def __init__(self, value):
        self.value = value


class NoTape(TapeError):
    """A key at which no tape is written."""

    def __init__(self, value):
        self.value = value


class NoName(TapeError):
    """What is no name of a loose thing."""

    def __init__(self, value):
        self.value = value


class BadThing(TapeError):
    """What a loose thing cannot be changed to."""

    def __init__(self, value):
        self.value = value


class BadRoom(TapeError):
    """What is no room of keepers."""

    def __init__(self, value):
        self.value = value


class BadCommand(TapeError):
    """A line that a desk does not know."""

    def __init__(self, value):
        self.value = value


class Fault(TapeError):
    """What goes wrong in a work: its word, then its causes' words."""

    def __init__(self, words):
        self.words = words


class TooMany(TapeError):
    """More of something than may be; the number tells how many may."""

    def __init__(self, number):
        self.number = number


class BadLine(TapeError):
    """The number of a journal's line that is refused."""

    def __init__(self, number):
        self.number = number


class BadBytes(TapeError):
    """The number of the byte that no written tape has there."""

    def __init__(self, at):
        self.at = at


class Wrong(TapeError):
    """A story of fewest deeds behind which a plan is wrong."""

    def __init__(self, story):
        self.story = story


class Empty(TapeError):
    """A lot without tapes."""


class NothingToUndo(TapeError):
    """No deed is there to be taken back."""


class NothingToRedo(TapeError):
    """No deed is there to be done again."""
