"""All errors of the program, and the classes above them."""


class PagesError(ValueError):
    """Any error of this program."""


class RecordError(PagesError):
    """A text, a tree or a record is not as told."""


class LimitError(PagesError):
    """Something is longer, larger, wider or taller than it may be, or there are too many of it."""


class GivenError(PagesError):
    """Something else that was given is not as told."""


class BadText(RecordError):
    """A text cannot be read; at is the number of the first token that does not fit."""

    def __init__(self, at):
        self.at = at


class BadCall(RecordError):
    """A call does not have the arguments that it must have."""

    def __init__(self, name):
        self.name = name


class Misplaced(RecordError):
    """A word or a call stands where it may not stand."""

    def __init__(self, name):
        self.name = name


class Unknown(RecordError):
    """There is nothing of this name."""

    def __init__(self, name):
        self.name = name


class Twice(RecordError):
    """A name is given twice."""

    def __init__(self, name):
        self.name = name


class TooLong(LimitError):
    """An expansion has this length, which is too much."""

    def __init__(self, length):
        self.length = length


class TooLarge(LimitError):
    """This part is larger than it may be."""

    def __init__(self, part):
        self.part = part


class TooMany(LimitError):
    """There are more of this part than there may be."""

    def __init__(self, part):
        self.part = part


class TooWide(LimitError):
    """This part is wider than its place."""

    def __init__(self, part):
        self.part = part


class TooTall(LimitError):
    """No columns of the depth can hold what they must hold."""


class BadStyle(GivenError):
    """This part of a style is not as told."""

    def __init__(self, part):
        self.part = part


class BadSecret(GivenError):
    """This part of the secret with the number at is not as told."""

    def __init__(self, at, part):
        self.at = at
        self.part = part


class BadEnding(GivenError):
    """The secret of this name does not have the ending."""

    def __init__(self, name):
        self.name = name


class NoStem(GivenError):
    """This is none of the stems."""

    def __init__(self, stem):
        self.stem = stem


class Untrue(GivenError):
    """News would rule out this stem, but it is the true one."""

    def __init__(self, stem):
        self.stem = stem


class BadFile(GivenError):
    """The command that begins at this character of a file cannot be done."""

    def __init__(self, at):
        self.at = at


class BadStep(GivenError):
    """The step of this number is none."""

    def __init__(self, at):
        self.at = at
