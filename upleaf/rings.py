"""Rings: sums of turns of patches that are nought, as the paper goes round and comes back."""

from upleaf.patches import patch_rows
from upleaf.sheet import joined_edges
from upleaf.stairs import plain

KINDS = "wf"


def cell_rows(card):
    """The kind and the patch of each cell, column by column, with the leaves on both sides."""
    leaf = plain(card.height(), card.depth())
    stairs = [leaf, *card.stairs(), leaf]
    return [list(zip(stair, row)) for stair, row in zip(stairs, patch_rows(card))]


def ring_pairs(adding, taking, kind):
    """How often each patch counts, by the cells of the kind among those that add and those that take."""
    sums = {}
    for cells, step in ((adding, 1), (taking, -1)):
        for own_kind, patch in cells:
            if own_kind == kind:
                sums[patch] = sums.get(patch, 0) + step
    return [(patch, sums[patch]) for patch in sorted(sums) if sums[patch] != 0]


def rings(card):
    """Tuples ("end", column, cells, kind, pairs), then ("edge", edge, cell, kind, pairs)."""
    rows = cell_rows(card)
    many = card.cells()
    # A column's end and the leaf's come together, as joined cells of an edge do.
    meetings = [("end", column, many, rows[column + 1], rows[0]) for column in range(len(card))]
    meetings += [("edge", edge, at, rows[edge], rows[edge + 1]) for edge, at in joined_edges(card)]
    told = []
    for name, number, at, adding, taking in meetings:
        for kind in KINDS:
            pairs = ring_pairs(adding[:at], taking[:at], kind)
            if pairs:
                told.append((name, number, at, kind, pairs))
    return told
