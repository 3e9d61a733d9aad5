"""Stairs and cards numbered from 0 on, in the order of texts and of lists of texts."""

from upleaf.cards import Card, check_width
from upleaf.errors import BadNumber
from upleaf.stairs import checked_size, sides


def mixes(walls, floors):
    """How many texts have so many `w` and so many `f`; either may be none."""
    many = 1
    for step in range(1, floors + 1):
        many = many * (walls + step) // step
    return many


def mixes_with_floor_first(walls, floors):
    return mixes(walls, floors - 1) if floors > 0 else 0


def ways(height, depth=None):
    """How many stairs of this size there are."""
    high, deep = checked_size(height, depth)
    return mixes(high, deep)


def stair_number(stair):
    walls, floors = sides(stair)
    number = 0
    for cell in stair:
        if cell == "f":
            floors -= 1
        else:
            # `f` goes ahead of `w`, so all that have an `f` here come first.
            number += mixes_with_floor_first(walls, floors)
            walls -= 1
    return number


def check_number(number, many):
    if not 0 <= number < many:
        raise BadNumber(f"numbers are from 0 to {many - 1}")


def stair_at(height, depth, number):
    """The stair of this size that has the number."""
    check_number(number, ways(height, depth))
    walls, floors, rest = height, depth, number
    stair = ""
    while walls + floors > 0:
        ahead = mixes_with_floor_first(walls, floors)
        if rest < ahead:
            stair += "f"
            floors -= 1
        else:
            stair += "w"
            walls -= 1
            rest -= ahead
    return stair


def how_many(columns, height, depth=None):
    """How many cards of this size there are, those with slits left out."""
    each = ways(height, depth)
    check_width(columns)
    many = 1
    for column in range(columns):
        many *= each
    return many


def card_number(card):
    """The card's number, its slits left out of sight."""
    each = ways(card.height(), card.depth())
    number = 0
    for stair in card.stairs():
        number = number * each + stair_number(stair)
    return number


def card_at(columns, height, depth, number):
    """The card without slits of this size that has the number."""
    check_number(number, how_many(columns, height, depth))
    each = ways(height, depth)
    rest = number
    stairs = []
    # The last column counts the fastest.
    for column in range(columns):
        rest, at = divmod(rest, each)
        stairs.append(stair_at(height, depth, at))
    return Card(stairs[::-1])
