"""The errors of the program: each keeps its arguments as attributes."""


class MakerError(ValueError):
    """Every error that the program raises on purpose stands under this one."""


class BadText(MakerError):
    """Token number `at` of a text is the first one that fits nowhere."""

    def __init__(self, at):
        self.at = at


class CheckError(MakerError):
    """The checker does not let a program."""


class TooLarge(CheckError):
    """There are too many parts in this declaration, or in the program."""

    def __init__(self, name):
        self.name = name


class Twice(CheckError):
    """This name is given a second time."""

    def __init__(self, name):
        self.name = name


class Unknown(CheckError):
    """Nothing has this name."""

    def __init__(self, name):
        self.name = name


class BadUse(CheckError):
    """What has this name, or this word, cannot stand here."""

    def __init__(self, name):
        self.name = name


class BadNumber(CheckError):
    """This number is no width, no length or no word here."""

    def __init__(self, value):
        self.value = value


class BadWidth(CheckError):
    """The parts of this sign, word or statement do not fit together."""

    def __init__(self, name):
        self.name = name


class Unmet(CheckError):
    """The external of this name has no answer for these words."""

    def __init__(self, name, words):
        self.name = name
        self.words = words


class LimitError(MakerError):
    """Something is larger than what is worked on."""


class TooWide(LimitError):
    """The parameters of this name have too many bits."""

    def __init__(self, name):
        self.name = name


class TooMany(LimitError):
    """There are too many of this part."""

    def __init__(self, part):
        self.part = part


class CutShort(LimitError):
    """This bound cuts a run."""

    def __init__(self, bound):
        self.bound = bound


class RunError(MakerError):
    """A run cannot be made as it is asked for."""


class BadBounds(RunError):
    """These are no bounds."""


class BadInput(RunError):
    """This part of an input does not fit."""

    def __init__(self, part):
        self.part = part


class NotAsked(RunError):
    """The run does not wait for an answer."""


class Unlike(MakerError):
    """The programs cannot be compared here."""


class NoEdition(MakerError):
    """There is no edition to go to."""


class Clash(MakerError):
    """Both batches touch this name."""

    def __init__(self, name):
        self.name = name


class NotFit(MakerError):
    """The function of this name cannot be made an external."""

    def __init__(self, name):
        self.name = name


class NotTotal(MakerError):
    """The function of this name does not return for these words."""

    def __init__(self, name, words):
        self.name = name
        self.words = words


class NotPure(MakerError):
    """The function of this name is not pure."""

    def __init__(self, name):
        self.name = name


class HasAsks(MakerError):
    """Something is asked where nothing can be."""
