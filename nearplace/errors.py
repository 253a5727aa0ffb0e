"""All refusals. Each kind stands straight under PlaceError."""


class PlaceError(ValueError):
    """Any refusal."""


class NoOrder(PlaceError):
    """What was handed in is no order."""


class NoReach(PlaceError):
    """What was handed in is no reach."""


class NoNumber(PlaceError):
    """What was handed in is no whole number, or none that may stand there."""


class NoKeep(PlaceError):
    """The order does not keep the reach."""


class NoStand(PlaceError):
    """What was handed in is no stand of the reach."""


class NoRolls(PlaceError):
    """What was handed in is no list of rolls."""


class NoShare(PlaceError):
    """What was handed in is no share."""


class NoWishes(PlaceError):
    """What was handed in is no list of wishes."""


class NoWord(PlaceError):
    """What was handed in is none of the words that may stand there."""


class TooMany(PlaceError):
    """There are more orders than are listed."""


class NoText(PlaceError):
    """What was handed in does not write what is to be read."""


class NoAsk(PlaceError):
    """What was handed in is no line that a desk answers."""
