"""The refusals, each a class of its own straight under KeyroomError."""


class KeyroomError(ValueError):
    """Any refusal."""


class NoHouse(KeyroomError):
    """What was handed in is no house."""


class NoPlain(KeyroomError):
    """The house has a door with several locks."""


class NoOrder(KeyroomError):
    """The list is no order of all rooms that may be gone."""


class NoNumber(KeyroomError):
    """A number, or a list of numbers, is none that is asked for."""


class NoKind(KeyroomError):
    """What was handed in are no two unlike kinds of the house."""


class TooMany(KeyroomError):
    """The house has more rooms than are answered."""


class NoText(KeyroomError):
    """The text writes no house."""


class NoRow(KeyroomError):
    """The row is none that the desk knows."""


class NoStep(KeyroomError):
    """The order may not be gone: at is the place of its first wrong step, None where it is no list."""

    def __init__(self, at):
        KeyroomError.__init__(self, str(at))
        self.at = at
