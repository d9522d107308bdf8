"""Deeds that make a world of a world, and desks on which they are done, taken back and done again."""

from arrowworlds.alikes import skeleton
from arrowworlds.backturns import turned_back
from arrowworlds.errors import NotDeed, NotDone, NotUndone, TooMany, WorldError
from arrowworlds.idles import completed
from arrowworlds.joins import joined
from arrowworlds.kinds import is_ascending, is_number_row
from arrowworlds.made import part_of, product, renumbered, sum_of
from arrowworlds.worlds import turned, world_breach


def is_row_below(value, limit):
    """Whether any value is an ascending tuple of numbers below the limit."""
    return type(value) is tuple and is_number_row(value, len(value), 0, limit - 1) and is_ascending(value)


def is_listing(value, many):
    """Whether any value is a tuple that lists all numbers below many once."""
    return is_number_row(value, many, 0, many - 1) and sorted(value) == list(range(many))


def are_parallel_pairs(world, value):
    """Whether any value is a tuple of pairs of arrows that lead from one thing to one thing."""
    ends = world[1]
    if type(value) is not tuple or not all([is_number_row(pair, 2, 0, len(ends) - 1) for pair in value]):
        return False
    return all([ends[f] == ends[g] for f, g in value])


def is_deed(world, value):
    """Whether any value is a deed for the world, but for the errors that doing it may raise."""
    if type(value) is not tuple or len(value) not in (1, 2) or type(value[0]) is not str:
        return False
    word = value[0]
    if len(value) == 1:
        return word in ("turn", "skeleton", "complete")
    if word in ("times", "beside"):
        return world_breach(value[1]) is None
    if word == "part":
        return is_row_below(value[1], world[0])
    if word == "list":
        return is_listing(value[1], world[0])
    if word == "join":
        return are_parallel_pairs(world, value[1])
    return word == "back" and is_row_below(value[1], len(world[1]))


def made_alone(world, word):
    """The world behind a deed that is a word alone."""
    if word == "turn":
        return turned(world)
    return skeleton(world) if word == "skeleton" else completed(world)


def made_with(world, word, told):
    """The world behind a deed of a word and what stands beside it; raises the errors of making it."""
    if word == "times":
        return product(world, told)
    if word == "beside":
        return sum_of(world, told)
    if word == "part":
        return part_of(world, told)
    if word == "list":
        return renumbered(world, told)
    return joined(world, told) if word == "join" else turned_back(world, told)


def made_by(world, deed):
    """The world behind a deed; raises the errors of making it."""
    return made_alone(world, deed[0]) if len(deed) == 1 else made_with(world, deed[0], deed[1])


def done(world, deed):
    """The world behind a deed; raises NotDeed for any value that is none, or that makes no world."""
    if not is_deed(world, deed):
        raise NotDeed("the value is no deed for the world")
    try:
        return made_by(world, deed)
    except WorldError:
        raise NotDeed("the deed makes no world")


class Desk:
    """A world and the deeds that were done to it, of which at most so many stand."""

    def __init__(self, world, *, most=40):
        self.worlds = [world]
        self.stood = []
        self.taken = []
        self.most = most

    @property
    def now(self):
        """The world as it stands."""
        return self.worlds[-1]

    @property
    def deeds(self):
        """The deeds that stand, the first one first."""
        return tuple(self.stood)

    def do(self, deed):
        """Do a deed and forget what was taken back; raises NotDeed, and then TooMany(most)."""
        world = done(self.now, deed)
        if len(self.stood) >= self.most:
            raise TooMany(self.most)
        self.worlds.append(world)
        self.stood.append(deed)
        self.taken = []

    def undo(self):
        """Take back the last deed that stands and return it; raises NotDone if none stands."""
        if not self.stood:
            raise NotDone("no deed stands")
        deed = self.stood.pop()
        self.taken.append((deed, self.worlds.pop()))
        return deed

    def again(self):
        """Do the deed that was taken back last once more and return it; raises NotUndone if there is none."""
        if not self.taken:
            raise NotUndone("no deed was taken back")
        deed, world = self.taken.pop()
        self.stood.append(deed)
        self.worlds.append(world)
        return deed

    def trial(self, deeds):
        """The world behind the deeds of a tuple, whatever most is; raises NotDeed for a value that is none."""
        if type(deeds) is not tuple:
            raise NotDeed("the value is no tuple of deeds")
        world = self.now
        for deed in deeds:
            world = done(world, deed)
        return world

    def twin(self):
        """A desk of its own with the same world, deeds, deeds taken back, and most."""
        other = Desk(self.worlds[0], most=self.most)
        other.worlds = list(self.worlds)
        other.stood = list(self.stood)
        other.taken = list(self.taken)
        return other
