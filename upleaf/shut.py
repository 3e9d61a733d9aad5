"""The card shut: how far its corners lie from the spine, and how thick the paper lies there."""

from upleaf.stairs import corners


def corner_distances(stair):
    return [forward + up for forward, up in corners(stair)]


def reach(card):
    """For each column how far its corners lie from the spine."""
    return [corner_distances(stair) for stair in card.stairs()]


def layers_of(distances):
    """How many cells lie on each place, from place 0 on, as many places as cells."""
    many = [0] * (len(distances) - 1)
    for start, end in zip(distances, distances[1:]):
        many[min(start, end)] += 1
    return many


def layers(card):
    """For each column how many cells lie on each place."""
    return [layers_of(distances) for distances in reach(card)]


def thickest(card):
    """The greatest number of cells of one column that lie on one place."""
    return max([max(column) for column in layers(card)])


def sticks_out(card):
    """The corners (column, corner), rising, that lie farther from the spine than both leaves reach."""
    farthest = max(card.height(), card.depth())
    return [
        (column, corner)
        for column, distances in enumerate(reach(card))
        for corner, distance in enumerate(distances)
        if distance > farthest
    ]
