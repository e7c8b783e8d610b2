"""All errors of the package."""


class BlankError(Exception):
    """The base class of all errors but `NoName`."""


class InvalidFraction(BlankError):
    """Something is no fraction."""

    def __init__(self, at):
        self.at = at


class InvalidForm(BlankError):
    """Something is no form."""

    def __init__(self, at):
        self.at = at


class InvalidBook(BlankError):
    """Something is no book."""

    def __init__(self, at):
        self.at = at


class InvalidSheets(BlankError):
    """Something is no table of sheets, or no tally."""

    def __init__(self, at):
        self.at = at


class InvalidChart(BlankError):
    """Something is no chart."""

    def __init__(self, at):
        self.at = at


class InvalidMaker(BlankError):
    """Something is no maker."""

    def __init__(self, at):
        self.at = at


class InvalidWay(BlankError):
    """Something is no way."""

    def __init__(self, at):
        self.at = at


class InvalidAsk(BlankError):
    """Something is no ask."""

    def __init__(self, at):
        self.at = at


class InvalidText(BlankError):
    """Something is not the text of what should be read."""

    def __init__(self, at):
        self.at = at


class InvalidSize(BlankError):
    """An argument is none with which the call can be made."""

    def __init__(self, word):
        self.word = word


class InvalidCommand(BlankError):
    """A line tells no command."""

    def __init__(self):
        pass


class Refused(BlankError):
    """What is asked for cannot be done."""

    def __init__(self, word):
        self.word = word


class NoName(KeyError):
    """No question has this name."""

    def __init__(self, name):
        self.name = name
