"""Every error of the package. Each keeps what it was made of."""


class TwinError(Exception):
    """The base of all errors of the package."""


class InvalidText(TwinError):
    """A text that can't be read: where its first wrong word begins."""

    def __init__(self, at):
        self.at = at


class InvalidMachine(TwinError):
    """No machine: the first wrong kind, the number of kinds, or -1."""

    def __init__(self, at):
        self.at = at


class InvalidLate(TwinError):
    """No late kinds: the first wrong one, or -1."""

    def __init__(self, at):
        self.at = at


class InvalidWord(TwinError):
    """No word of kinds: the first wrong one, or -1."""

    def __init__(self, at):
        self.at = at


class InvalidKind(TwinError):
    """No kind."""

    def __init__(self, at):
        self.at = at


class InvalidState(TwinError):
    """No state."""

    def __init__(self, at):
        self.at = at


class InvalidMap(TwinError):
    """No map of the states: the first wrong state, or -1."""

    def __init__(self, at):
        self.at = at


class InvalidStory(TwinError):
    """No story: the first wrong news, or -1."""

    def __init__(self, at):
        self.at = at


class InvalidMoment(TwinError):
    """No moment, or not one that is wanted."""

    def __init__(self, at):
        self.at = at


class InvalidPlaces(TwinError):
    """No places of a story: the first wrong pair, or -1."""

    def __init__(self, at):
        self.at = at


class InvalidTwin(TwinError):
    """No table of a twin: the first wrong word, or -1."""

    def __init__(self, at):
        self.at = at


class InvalidItems(TwinError):
    """No row of marks."""

    def __init__(self, at):
        self.at = at


class InvalidPaper(TwinError):
    """A paper that does not hold."""

    def __init__(self, at):
        self.at = at


class InvalidLateness(TwinError):
    """No lateness: the first wrong kind, or -1."""

    def __init__(self, at):
        self.at = at


class InvalidGone(TwinError):
    """No story with withdrawn news: the first wrong deed, or -1."""

    def __init__(self, at):
        self.at = at


class InvalidLot(TwinError):
    """No lot: the first wrong one, or -1."""

    def __init__(self, at):
        self.at = at


class InvalidPanel(TwinError):
    """No panel: the first wrong instrument, or -1."""

    def __init__(self, at):
        self.at = at


class InvalidPlant(TwinError):
    """No plant, or no reader."""

    def __init__(self, at):
        self.at = at


class InvalidLetter(TwinError):
    """No letter: the first wrong part, or -1."""

    def __init__(self, at):
        self.at = at


class InvalidMarks(TwinError):
    """No number of marks."""

    def __init__(self, at):
        self.at = at


class InvalidReadings(TwinError):
    """No reading."""

    def __init__(self, at):
        self.at = at


class InvalidRoom(TwinError):
    """No room."""

    def __init__(self, at):
        self.at = at


class InvalidDeed(TwinError):
    """No deed that can be done."""

    def __init__(self, at):
        self.at = at


class InvalidAsked(TwinError):
    """No question: the first wrong part, or -1."""

    def __init__(self, at):
        self.at = at


class InvalidIndex(TwinError):
    """No number of what is there."""

    def __init__(self, at):
        self.at = at


class Refused(TwinError):
    """What can't be done with things that are right by themselves."""

    def __init__(self, at):
        self.at = at


class InvalidSize(TwinError):
    """Too much or too little of what the word tells."""

    def __init__(self, word):
        self.word = word


class InvalidCommand(TwinError):
    """No command of the desk."""
