"""The refusals: one class for each reason, all under TouchError."""


class TouchError(ValueError):
    """Any refusal."""


class NoWeb(TouchError):
    """What was handed in is no web."""


class NoTinting(TouchError):
    """What was handed in is no tinting of the web."""


class NoFloor(TouchError):
    """What was handed in is no floor, or none of the web."""


class Meeting(TouchError):
    """Four rooms of the floor meet."""


class NoRoom(TouchError):
    """There is no room of this name."""


class NoName(TouchError):
    """This is no name for a room."""


class Twice(TouchError):
    """There is a room of this name already."""


class NoCut(TouchError):
    """The room can't be cut there, or the two can't be joined."""


class TooMany(TouchError):
    """There would be more rooms than a floor has."""


class NoDeed(TouchError):
    """There is no deed to take back."""


class NoText(TouchError):
    """The text is that of no web, or of no floor."""
