"""The errors that the package raises."""


class CraftError(ValueError):
    """What all errors of the package are."""

    # ValueError would take anything: an error is made with just its fields.
    def __init__(self):
        pass


class BadFormat(CraftError):
    """A part of a format is not right: part is its name."""

    def __init__(self, part):
        self.part = part


class NoDyad(CraftError):
    """What should be a dyad is none, or none of the format."""


class NoFraction(CraftError):
    """What should be a fraction in lowest terms is none."""


class Beyond(CraftError):
    """The format has no dyad on the side that is asked for."""


class NoWay(CraftError):
    """What should be a way of rounding is none."""


class Nought(CraftError):
    """Something is divided by nought, or by what may be nought."""


class NoFractions(CraftError):
    """What should be one or more fractions is none."""


class NoInterval(CraftError):
    """What should be an interval is none."""


class NoRow(CraftError):
    """What should be a row of integers is none."""


class NoFormula(CraftError):
    """What should be a formula over so many inputs is none."""


class NoBox(CraftError):
    """What should be a box is none, or one of too many rows or no places."""


class NoInteger(CraftError):
    """What should be an integer is none."""


class BadPlant(CraftError):
    """A part of a plant is not right: part is its name."""

    def __init__(self, part):
        self.part = part


class NoPlace(CraftError):
    """What should be a place of the plant is none."""


class NoPush(CraftError):
    """What should be a push of the plant is none."""


class BadCraft(CraftError):
    """A part of a craft is not right: part is its name."""

    def __init__(self, part):
        self.part = part


class NoLot(CraftError):
    """What should be a lot is none."""


class NoLever(CraftError):
    """What should be the number of a lever row is none."""


class NoRun(CraftError):
    """What should be a run of the craft is none."""


class NoLacks(CraftError):
    """What should tell how often each sensor lacked is none."""


class NoLength(CraftError):
    """What should be the length of a period is none."""


class NoKnowledge(CraftError):
    """What should be a knowledge has not its form."""


class NoReading(CraftError):
    """What should be a reading has not its form."""


class Outside(CraftError):
    """No standing is left of which a reading can come."""


class TooMany(CraftError):
    """More come than most, the bound of what is asked for."""

    def __init__(self, most):
        self.most = most


class NoStory(CraftError):
    """What should be a story has not its form."""


class NoStanding(CraftError):
    """What should be a standing is none."""


class NoNumber(CraftError):
    """What should be a number within bounds is none."""


class NoWish(CraftError):
    """What should be a wish is none."""


class NoNode(CraftError):
    """What should be a node is none."""


class NoSpoiler(CraftError):
    """What should be a spoiler is none."""


class BadTelling(CraftError):
    """Behind these readings a telling told no row."""

    def __init__(self, readings):
        self.readings = readings


class NoIndex(CraftError):
    """What should be the number of a wish with a k is none."""


class NoMachine(CraftError):
    """What should be a machine is none."""


class NoReadings(CraftError):
    """What should be readings one behind another is none."""


class NoChoice(CraftError):
    """What should be a choice is none."""


class NoPoint(CraftError):
    """What should be the number of a point is none."""


class BadProgram(CraftError):
    """A part of a program is not right: part tells which."""

    def __init__(self, part):
        self.part = part


class NoStand(CraftError):
    """What should be a stand is none."""


class BadCode(CraftError):
    """A part of code is not right: part tells which."""

    def __init__(self, part):
        self.part = part


class NoKnocks(CraftError):
    """What should tell when knocks come is none."""


class NoSpot(CraftError):
    """What should be a spot with one behind it is none."""


class NoAnswer(CraftError):
    """What should be an answer at a spot is none."""


class NoWhat(CraftError):
    """What should be a word for what is needed is none."""


class NoShape(CraftError):
    """The code's shape is not the craft's."""


class NotApart(CraftError):
    """The code is not apart."""


class NotAwaited(CraftError):
    """A reading or a row comes where the other one is due."""


class NoArea(CraftError):
    """What should be an area is none."""


class NothingDone(CraftError):
    """There is nothing to take back."""


class BadRun(CraftError):
    """In this period the code does not do what the run tells."""

    def __init__(self, period):
        self.period = period


class NoThing(CraftError):
    """What should be written can't be."""


class BadThing(CraftError):
    """A text is nothing written: place tells how far it goes well."""

    def __init__(self, place):
        self.place = place


class BadText(CraftError):
    """A line has not the form that is due there."""

    def __init__(self, line):
        self.line = line


class NoLine(CraftError):
    """What should be a line of the desk has none of its forms."""


class NoName(CraftError):
    """Nothing of its sort is kept under this name."""

    def __init__(self, name):
        self.name = name


class NoWishes(CraftError):
    """What should be wishes is none."""
