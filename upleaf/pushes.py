"""Pushes that lead one card to another one."""

from upleaf.errors import Unlike
from upleaf.stairs import pushed
from upleaf.views import from_front, front


def check_like(one, other):
    if (len(one), one.height(), one.depth()) != (len(other), other.height(), other.depth()):
        raise Unlike("the cards have unlike columns, heights or depths")


def rows_of_pairs(one, other):
    """Seen from the front, how far forward each wall cell stands in both cards."""
    check_like(one, other)
    return [list(zip(row, beside)) for row, beside in zip(front(one), front(other))]


def apart(one, other):
    """How many squares lie behind just one of the cards."""
    return sum([abs(here - there) for row in rows_of_pairs(one, other) for here, there in row])


def shared(one, other):
    """The card of the squares that both have, without slits."""
    return from_front([[min(pair) for pair in row] for row in rows_of_pairs(one, other)], one.depth())


def together(one, other):
    """The card of the squares that either has, without slits."""
    return from_front([[max(pair) for pair in row] for row in rows_of_pairs(one, other)], one.depth())


def walls_ahead(stair, corner):
    return stair[:corner].count("w")


def nearer_corners(stair, goal):
    """The corners whose push leaves the stair one square nearer to the goal; some, but where it is the goal."""
    told = []
    for corner in range(1, len(stair)):
        beyond = walls_ahead(stair, corner) - walls_ahead(goal, corner)
        cells = stair[corner - 1:corner + 1]
        # A push changes the walls ahead of its own corner alone: one less where it was `wf`, one more where `fw`.
        if (beyond > 0 and cells == "wf") or (beyond < 0 and cells == "fw"):
            told.append(corner)
    return told


def corners_between(stair, goal):
    """The corners to push, each one of the stair as it is then, to lead it to the goal."""
    told = []
    now = stair
    while now != goal:
        corner = nearer_corners(now, goal)[0]
        now = pushed(now, corner)
        told.append(corner)
    return told


def way(one, other):
    """The fewest pushes (column, corner) that lead from the one card's stairs to the other's."""
    check_like(one, other)
    told = []
    for column, (stair, goal) in enumerate(zip(one.stairs(), other.stairs())):
        told += [(column, corner) for corner in corners_between(stair, goal)]
    return told
