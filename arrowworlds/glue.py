"""Fitting choices for fans, and lots that are apart, glued, and made so."""

from arrowworlds.arrows import are_all_unlike
from arrowworlds.fits import FitSearch
from arrowworlds.lots import lot_of_choices, sized
from arrowworlds.truths import all_fans

MOST_FITTING = 1000


def fitting(world, lot, fan):
    """All fitting choices for the fan, ascending; raises TooMany(1000) if there are more."""
    all_fans(world)
    return tuple(FitSearch(world, lot, MOST_FITTING).choices_for(fan))


def given_choices(lot, x, fan):
    """For each element at x the choice for the fan that it gives."""
    return [tuple([lot[1][f][k] for f in fan]) for k in range(lot[0][x])]


def least_covers(book):
    """For each thing the cover that lies in all covers of it."""
    return [min(covers, key=len) for covers in book]


def is_apart(world, book, lot):
    """Whether no two elements at a thing give one choice for a cover of it."""
    all_fans(world)
    # Elements that a cover tells apart are told apart by all covers that it lies in.
    return all([are_all_unlike(given_choices(lot, x, fan)) for x, fan in enumerate(least_covers(book))])


def is_glued(world, book, lot):
    """Whether each fitting choice for each cover comes from just one element; raises TooMany(1000) as fitting."""
    fits = is_apart(world, book, lot)
    search = FitSearch(world, lot, MOST_FITTING)
    for x, covers in enumerate(book):
        # All are counted, for their errors.
        if not all([search.how_many(fan) == lot[0][x] for fan in covers]):
            fits = False
    return fits


def glued_choices(world, book, lot):
    """For each thing the fitting choices for its least cover; raises TooMany(1000), and then TooMany(40)."""
    all_fans(world)
    search = FitSearch(world, lot, MOST_FITTING)
    rows = [search.choices_for(fan) for fan in least_covers(book)]
    sized([len(choices) for choices in rows])
    return rows


def glued_once(world, book, lot):
    """The lot whose elements are the fitting choices for the least covers."""
    rows = glued_choices(world, book, lot)
    return lot_of_choices(world, least_covers(book), rows, lambda f, g: world[2][f][g])


def glue_family(world, book, lot):
    """The family that takes each element to the choice that it gives for the least cover."""
    numbers = [{choice: k for k, choice in enumerate(choices)} for choices in glued_choices(world, book, lot)]
    covers = least_covers(book)
    return tuple([tuple([row[choice] for choice in given_choices(lot, x, covers[x])]) for x, row in enumerate(numbers)])


def glued(world, book, lot):
    """The lot that is glued once, and then once more."""
    return glued_once(world, book, glued_once(world, book, lot))
