"""All refusals of the program; each keeps what it is made of, whatever that is."""


class ReachError(ValueError):
    """Any refusal but TooMany, NoName, Sweeping and NoSweep."""


class NoFields(ReachError):
    """What was handed in is no tuple of the fields of a lawful word."""

    def __init__(self, text):
        self.text = text


class NoBounds(ReachError):
    """What was handed in is no bounds, or no number of cells that has a room."""

    def __init__(self, text):
        self.text = text


class NoOffset(ReachError):
    """What was handed in is no whole number from -8 to 15."""

    def __init__(self, text):
        self.text = text


class NoAddress(ReachError):
    """What was handed in is no address."""

    def __init__(self, text):
        self.text = text


class NoWord(ReachError):
    """What was handed in is no lawful word."""

    def __init__(self, text):
        self.text = text


class NoHands(ReachError):
    """What was handed in can't be handed to the boxes of a machine."""

    def __init__(self, text):
        self.text = text


class NoRule(ReachError):
    """What was handed in is not the name of a rule."""

    def __init__(self, text):
        self.text = text


class NoNumber(ReachError):
    """What was handed in is no whole number of those asked for."""

    def __init__(self, text):
        self.text = text


class NoLine(ReachError):
    """What was told to a desk is no row of its words."""

    def __init__(self, text):
        self.text = text


class Fault(ReachError):
    """A word that was used where it can't be; `word` tells the first fault due."""

    def __init__(self, word):
        self.word = word


class NoRows(ReachError):
    """No rows; `number` is that of the first row that is none, or None."""

    def __init__(self, number):
        self.number = number


class NoText(ReachError):
    """No such text; `number` is that of the first row of text that is none, or None."""

    def __init__(self, number):
        self.number = number


class NoDeeds(ReachError):
    """No deeds; `number` is that of the first deed that is none, or None."""

    def __init__(self, number):
        self.number = number


class NoCompartment(ReachError):
    """No compartments; which one is the first that is none, and which part of it."""

    def __init__(self, number, part):
        self.number = number
        self.part = part


class TooMany(OverflowError):
    """More things than are kept; `size` tells how many they would be."""

    def __init__(self, size):
        self.size = size


class NoName(KeyError):
    """Nothing is kept by that name."""

    def __init__(self, name):
        self.name = name


class Sweeping(RuntimeError):
    """A sweep is under way already."""

    def __init__(self, text):
        self.text = text


class NoSweep(LookupError):
    """No sweep is under way."""

    def __init__(self, text):
        self.text = text
