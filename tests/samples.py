"""What several tests try."""

import itertools

from upleaf.cards import Card
from upleaf.stairs import corners, plain

FAR = 10 ** 40 - 1
BAD_SIZES = (0, 9, -1, -8, 10, FAR, -FAR)


def all_stairs(height, depth):
    """All stairs of this size, in the order of texts."""
    places = itertools.combinations(range(height + depth), height)
    return sorted("".join("w" if k in chosen else "f" for k in range(height + depth)) for chosen in places)


def all_cards(columns, height, depth):
    """All cards of this size without slits, in the order of their lists of stairs."""
    return [Card(list(stairs)) for stairs in itertools.product(all_stairs(height, depth), repeat=columns)]


def together(stairs, edge, at):
    """Cells fall together where they lie between the same two places."""
    leaf = plain(stairs[0].count("w"), stairs[0].count("f"))
    row = [leaf] + stairs + [leaf]
    left, right = corners(row[edge]), corners(row[edge + 1])
    return left[at:at + 2] == right[at:at + 2]


def all_together(stairs):
    return [
        (edge, at) for edge in range(len(stairs) + 1) for at in range(len(stairs[0])) if together(stairs, edge, at)
    ]


def some_cards():
    """Cards without slits of several sizes, the greatest one among them."""
    for size in ((1, 1, 1), (1, 4, 3), (2, 2, 3), (2, 3, 2), (3, 2, 2), (4, 1, 1), (2, 1, 8), (2, 8, 1)):
        yield from all_cards(*size)
    yield Card([plain(8), "f" * 8 + "w" * 8, "wf" * 8, "fw" * 8, "wwff" * 4, plain(8), plain(8), "ffww" * 4])
