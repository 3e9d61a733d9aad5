"""Mends: which slits to glue so that a card is stiff, and which edges keep it so."""

from upleaf.cards import Card
from upleaf.errors import TooMany
from upleaf.motion import freedom, stiff
from upleaf.sheet import joined_edges

MOST_SLITS = 6


def choices(things, many):
    """The rising lists of so many of the things, which rise, in the order of lists."""
    if many == 0:
        return [[]]
    return [[thing, *rest] for at, thing in enumerate(things) for rest in choices(things[at + 1:], many - 1)]


def least_glue(card):
    """The first of the shortest lists of slits that, glued, leave the card stiff; None where there is none."""
    slits = card.slits()
    if len(slits) > MOST_SLITS:
        raise TooMany(f"the card has more than {MOST_SLITS} slits")
    for many in range(len(slits) + 1):
        for chosen in choices(slits, many):
            if stiff(Card(card.stairs(), [slit for slit in slits if slit not in chosen])):
                return chosen
    return None


def tied(card, limit=1):
    """The joined edges (edge, cell), rising, of which a slit makes the freedom greater by the limit or more."""
    least = freedom(card) + limit
    return [(edge, at) for edge, at in joined_edges(card) if freedom(card.slit(edge, at)) >= least]
