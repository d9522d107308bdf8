"""Orders, and worlds of one thing."""

from arrowworlds.errors import NotLoops, NotOrder
from arrowworlds.kinds import is_number_row
from arrowworlds.making import made_world
from arrowworlds.worlds import MOST_ARROWS


def does_lack(pairs):
    """Whether two pairs lead on one from the other to a pair that is missing."""
    return any([x != z and (x, z) not in pairs for x, y in pairs for w, z in pairs if y == w])


def order_world(n, pairs):
    """The world with one arrow for each thing and each pair; raises NotOrder if a pair is missing."""
    if does_lack(pairs):
        raise NotOrder("two pairs lead on to a pair that is missing")
    things = [(x,) for x in range(n)]
    stills = [(name, name, ()) for name in things]
    arrows = stills + [((x,), (y,), ()) for x, y in pairs]
    return made_world(things, stills, arrows, lambda first, second: ())


def chain_world(n):
    """The order of n things with an arrow from each to each greater one."""
    return order_world(n, tuple([(x, y) for x in range(n) for y in range(x + 1, n)]))


def apart_world(n):
    """The world of n things with still arrows alone."""
    return order_world(n, ())


def has_loop_form(rows):
    """Whether the value is a tuple of k tuples of k integers from 0 to k - 1, k from 1 to 40."""
    if type(rows) is not tuple or not 1 <= len(rows) <= MOST_ARROWS:
        return False
    k = len(rows)
    return all([is_number_row(row, k, 0, k - 1) for row in rows])


def is_loop_at(rows, a):
    """Whether 0 does not change a, and (a b) c is a (b c) for all b and c."""
    if rows[0][a] != a or rows[a][0] != a:
        return False
    for b, ab in enumerate(rows[a]):
        for c, bc in enumerate(rows[b]):
            if rows[ab][c] != rows[a][bc]:
                return False
    return True


def loop_world(rows):
    """The world of one thing whose arrows make one another by the rows; raises NotLoops."""
    if not has_loop_form(rows) or not all([is_loop_at(rows, a) for a in range(len(rows))]):
        raise NotLoops("the value is no table of loops")
    return (1, tuple([(0, 0) for _ in rows]), rows)
