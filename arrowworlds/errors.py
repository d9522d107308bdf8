"""The errors of the package: each kind of failure has a class of its own."""


class WorldError(ValueError):
    """The base of all errors of the package."""


class NotWorld(WorldError):
    """A value that is no world: the broken rule and its place, as world_breach tells them."""

    def __init__(self, rule, place):
        self.rule = rule
        self.place = place


class TooMany(WorldError):
    """More than limit of what was asked for."""

    def __init__(self, limit):
        self.limit = limit


class NotFollowing(WorldError):
    """The second arrow does not follow the first one."""


class NotOrder(WorldError):
    """Pairs of which one is missing, or a world that is no order."""


class NotLoops(WorldError):
    """A value that is no table of loops."""


class NotSteps(WorldError):
    """Steps of which the entry at place is none where it stands; -1 for a value that is no tuple."""

    def __init__(self, place):
        self.place = place


class NotKept(WorldError):
    """Arrows that do not keep the pair of equal words at place; -1 for a road with wrong ends."""

    def __init__(self, place):
        self.place = place


class NotFractions(WorldError):
    """A kind that does not let fractions."""


class NotOneWay(WorldError):
    """A world with a way back."""


class NotDeed(WorldError):
    """A value that is no deed for the world."""


class NotDone(WorldError):
    """No deed stands that could be taken back."""


class NotUndone(WorldError):
    """No deed was taken back that could be done again."""
