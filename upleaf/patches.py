"""Patches: cells that are one piece of paper and turn together."""

from upleaf.errors import NoCell
from upleaf.sheet import joined_edges

WALL = 0
FLOOR = 1


def place_rows(card):
    """A number for each cell, those of the leaves around the columns: the wall's, the floor's, then each its own."""
    leaf = [WALL] * card.height() + [FLOOR] * card.depth()
    many = card.cells()
    first = FLOOR + 1
    columns = [[first + column * many + at for at in range(many)] for column in range(len(card))]
    return [leaf, *columns, leaf]


def bonds(card, rows):
    """Pairs of numbers of cells that are of one patch."""
    told = [(rows[edge][at], rows[edge + 1][at]) for edge, at in joined_edges(card)]
    for stair, row in zip(card.stairs(), rows[1:]):
        if stair[0] == "w":
            told.append((WALL, row[0]))
        if stair[-1] == "f":
            told.append((FLOOR, row[-1]))
        told += [(row[at - 1], row[at]) for at in range(1, len(stair)) if stair[at - 1] == stair[at]]
    return told


def least_of_each(many, pairs):
    """For each number below `many` the least one that pairs lead to."""
    least = list(range(many))
    for one, other in pairs:
        low, high = sorted([least[one], least[other]])
        if low != high:
            least = [low if number == high else number for number in least]
    return least


def patch_rows(card):
    """The patch of each cell, column by column, with the leaves on both sides."""
    rows = place_rows(card)
    least = least_of_each(rows[-2][-1] + 1, bonds(card, rows))
    # The least number of a patch is that of its first cell, so patches are numbered in the order of these.
    numbers = {number: patch for patch, number in enumerate(sorted(set(least)))}
    return [[numbers[least[place]] for place in row] for row in rows]


def patches(card):
    """Pairs of the kind and the cells (column, cell) of each patch, the wall's first, then the floor's."""
    told = [("w", []), ("f", [])]
    for column, (stair, row) in enumerate(zip(card.stairs(), patch_rows(card)[1:])):
        for at, (kind, patch) in enumerate(zip(stair, row)):
            if patch == len(told):
                told.append((kind, []))
            told[patch][1].append((column, at))
    return told


def patch_of(card, column, at):
    """The number of the cell's patch."""
    stair = card.stair(column)
    if not 0 <= at < len(stair):
        raise NoCell("no such cell")
    return patch_rows(card)[column + 1][at]
