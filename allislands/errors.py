"""The errors of the package, each with its arguments as attributes."""


class IslandError(ValueError):
    """Any refusal of the package."""


class BadPlace(IslandError):
    """The value is no place."""

    def __init__(self, value):
        self.value = value


class BadIsland(IslandError):
    """The value is no island."""

    def __init__(self, value):
        self.value = value


class BadPicture(IslandError):
    """The value is no picture of levels."""

    def __init__(self, value):
        self.value = value


class BadRule(IslandError):
    """What stands at the place, () being all of it, is not as in a rule."""

    def __init__(self, place):
        self.place = place


class BadBars(IslandError):
    """What stands at the place, () being all of it, is no set as of bars."""

    def __init__(self, place):
        self.place = place


class BadTable(IslandError):
    """The value is no table."""

    def __init__(self, value):
        self.value = value


class BadTerm(IslandError):
    """What the path leads to, () being all of it, is no term."""

    def __init__(self, path):
        self.path = path


class BadDirection(IslandError):
    """The value is no direction."""

    def __init__(self, value):
        self.value = value


class BadFan(IslandError):
    """The value is no fan."""

    def __init__(self, value):
        self.value = value


class BadPoint(IslandError):
    """The value is no point."""

    def __init__(self, value):
        self.value = value


class BadRow(IslandError):
    """The value is no row."""

    def __init__(self, value):
        self.value = value


class BadStair(IslandError):
    """The value is no stair."""

    def __init__(self, value):
        self.value = value


class BadRules(IslandError):
    """What stands at the place, () being all of it, is not as in a tuple of rules."""

    def __init__(self, place):
        self.place = place


class BadMap(IslandError):
    """The value is no change of the board."""

    def __init__(self, value):
        self.value = value


class BadText(IslandError):
    """The word of the line is not as told."""

    def __init__(self, line, word):
        self.line = line
        self.word = word


class BadDeed(IslandError):
    """What stands at the place is no deed."""

    def __init__(self, place):
        self.place = place


class BadParameter(IslandError):
    """The value is none that the parameter may have."""

    def __init__(self, value):
        self.value = value


class NoRow(IslandError):
    """What is asked for is not there."""


class Unlike(IslandError):
    """The value tells where things do not go together."""

    def __init__(self, value):
        self.value = value


class TooGreat(IslandError):
    """More than the most that are let."""

    def __init__(self, most):
        self.most = most


class NothingBack(IslandError):
    """There is nothing to take back."""
