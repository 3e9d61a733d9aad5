"""What several tests try."""

import itertools
import random

from upleaf.cards import Card
from upleaf.stairs import corners, plain

FAR = 10 ** 40 - 1
BAD_SIZES = (0, 9, -1, -8, 10, FAR, -FAR)


def all_stairs(height, depth):
    """All stairs of this size, in the order of texts."""
    places = itertools.combinations(range(height + depth), height)
    return sorted("".join("w" if k in chosen else "f" for k in range(height + depth)) for chosen in places)


def all_cards(columns, height, depth):
    """All cards of this size without slits, in the order of their lists of stairs."""
    return [Card(list(stairs)) for stairs in itertools.product(all_stairs(height, depth), repeat=columns)]


def together(stairs, edge, at):
    """Cells fall together where they lie between the same two places."""
    leaf = plain(stairs[0].count("w"), stairs[0].count("f"))
    row = [leaf] + stairs + [leaf]
    left, right = corners(row[edge]), corners(row[edge + 1])
    return left[at:at + 2] == right[at:at + 2]


def all_together(stairs):
    return [
        (edge, at) for edge in range(len(stairs) + 1) for at in range(len(stairs[0])) if together(stairs, edge, at)
    ]


def some_cards():
    """Cards without slits of several sizes, the greatest one among them."""
    for size in ((1, 1, 1), (1, 4, 3), (2, 2, 3), (2, 3, 2), (3, 2, 2), (4, 1, 1), (2, 1, 8), (2, 8, 1)):
        yield from all_cards(*size)
    yield Card([plain(8), "f" * 8 + "w" * 8, "wf" * 8, "fw" * 8, "wwff" * 4, plain(8), plain(8), "ffww" * 4])


def mixed_stair(chance, height, depth):
    cells = list("w" * height + "f" * depth)
    chance.shuffle(cells)
    return "".join(cells)


def mixed_card(chance, columns, height, depth, slit=0.3):
    """A card of few unlike stairs, so that many of its cells are joined, and about so many of these slit."""
    few = [mixed_stair(chance, height, depth) for k in range(3)]
    stairs = [chance.choice(few) for column in range(columns)]
    return Card(stairs, [pair for pair in all_together(stairs) if chance.random() < slit])


def mixed_cards(many, most_columns=8, longest=8):
    """Cards with slits and without, of all sizes; the same ones each time."""
    chance = random.Random(20)
    for k in range(many):
        size = [chance.randint(1, most_columns), chance.randint(1, longest), chance.randint(1, longest)]
        yield mixed_card(chance, *size, slit=chance.choice((0, 0.1, 0.3, 0.6)))


def great_cards():
    """Cards of eight columns of eight by eight, with slits and without."""
    to_and_fro = ["wf" * 8, "fw" * 8]
    for stairs in ([to_and_fro[0]] * 8, [to_and_fro[1]] * 8, to_and_fro * 4, ["wwff" * 4] * 8, [plain(8)] * 8):
        meeting = all_together(stairs)
        yield Card(stairs)
        yield Card(stairs, [(edge, at) for edge, at in meeting if (edge + at) % 2])
        yield Card(stairs, meeting[::3])
    chance = random.Random(21)
    for slit in (0, 0.2, 0.5):
        yield mixed_card(chance, 8, 8, 8, slit)
