"""The errors of the package; each keeps its arguments as they were passed."""


class BoardError(Exception):
    """The base of all errors of the package but NoName."""


class InvalidBoard(BoardError):
    """No board: at tells which argument is wrong, and where."""

    def __init__(self, at):
        self.at = at


class InvalidSetting(BoardError):
    """No setting, or no contents."""

    def __init__(self, at):
        self.at = at


class InvalidLot(BoardError):
    """No lot."""

    def __init__(self, at):
        self.at = at


class InvalidRow(BoardError):
    """No row, or no permutation."""

    def __init__(self, at):
        self.at = at


class InvalidTable(BoardError):
    """No square table, or no group."""

    def __init__(self, at):
        self.at = at


class InvalidShape(BoardError):
    """No shape."""

    def __init__(self, at):
        self.at = at


class InvalidForm(BoardError):
    """No form."""

    def __init__(self, at):
        self.at = at


class InvalidNet(BoardError):
    """No net."""

    def __init__(self, at):
        self.at = at


class InvalidTests(BoardError):
    """No tries."""

    def __init__(self, at):
        self.at = at


class InvalidRenewal(BoardError):
    """No rows of a lot."""

    def __init__(self, at):
        self.at = at


class InvalidHolds(BoardError):
    """No pairs of parts and contents."""

    def __init__(self, at):
        self.at = at


class InvalidCases(BoardError):
    """No told cases."""

    def __init__(self, at):
        self.at = at


class InvalidText(BoardError):
    """A text that cannot be read: at is its first wrong row."""

    def __init__(self, at):
        self.at = at


class InvalidSize(BoardError):
    """A number out of its bounds: word tells which."""

    def __init__(self, word):
        self.word = word


class InvalidCommand(BoardError):
    """No command."""


class Refused(BoardError):
    """Right by itself, but not to be done here."""

    def __init__(self, at):
        self.at = at


class NoName(KeyError):
    """A name that stands for nothing."""

    def __init__(self, name):
        self.name = name
