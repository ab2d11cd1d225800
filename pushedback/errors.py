"""All errors of the package, in their families."""


class PushError(ValueError):
    """The base class of all errors."""


class PaperError(PushError):
    """The family of what checkers refuse."""


class StackError(PushError):
    """The family of what stacks, heaps and parameters are refused for."""


class LossError(PushError):
    """The family of what is lost or spoilt."""


class LiveError(PushError):
    """The family of what a live stack refuses."""


class TextError(PushError):
    """The family of lines that cannot be read."""


class InvalidPaper(PaperError):
    """A checker's first entry that applies, and where."""

    def __init__(self, word, at):
        self.word = word
        self.at = at


class NotUsable(StackError):
    """The name of the parameter that is not as it has to be."""

    def __init__(self, word, at):
        self.word = word
        self.at = at


class Unread(StackError):
    """Why a row of digits gives no text."""

    def __init__(self, why):
        self.why = why


class Spoilt(LossError):
    """A frame whose check fails."""

    def __init__(self, frame):
        self.frame = frame


class Unmended(LossError):
    """The blocks that the kept pieces do not tell."""

    def __init__(self, untold):
        self.untold = untold


class InvalidEvent(LiveError):
    """An event that is refused, and the reason."""

    def __init__(self, event, reason):
        self.event = event
        self.reason = reason


class NothingToUndo(LiveError):
    """More steps than there are to take back."""

    def __init__(self, steps):
        self.steps = steps


class InvalidText(TextError):
    """The line, and the field in it, at which reading ends."""

    def __init__(self, line, field):
        self.line = line
        self.field = field


class InvalidRow(TextError):
    """A row that a desk cannot take."""

    def __init__(self, row):
        self.row = row
