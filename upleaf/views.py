"""What is seen of a card: from the front, from above, and in the sun."""

from upleaf.cards import MOST_COLUMNS, Card, is_width
from upleaf.errors import BadSize, BadView
from upleaf.stairs import LONGEST_SIDE, is_size, squares


def wall_places(stair):
    """How far forward each wall cell stands, the highest first."""
    return [stair[:at].count("f") for at, cell in enumerate(stair) if cell == "w"]


def front(card):
    """For each height, the highest first, how far forward the wall cell of each column stands."""
    columns = [wall_places(stair) for stair in card.stairs()]
    return [[column[row] for column in columns] for row in range(card.height())]


def above(card):
    """For each floor cell, the foremost first, how far up that of each column lies."""
    return front(card.turned())


def check_view(rows, other_side):
    if not is_size(len(rows), other_side) or not is_width(len(rows[0])):
        raise BadSize(f"sides are from 1 to {LONGEST_SIDE}, columns from 1 to {MOST_COLUMNS}")
    least = [0] * len(rows[0])
    for at, row in enumerate(rows):
        if len(row) != len(least) or not all([low <= far <= other_side for low, far in zip(least, row)]):
            raise BadView(at)
        least = row


def stair_of_walls(places, depth):
    """The stair whose wall cells, the highest first, stand so far forward."""
    stair = ""
    for far in places:
        stair += "f" * (far - stair.count("f")) + "w"
    return stair + "f" * (depth - stair.count("f"))


def from_front(rows, depth):
    """The card without slits that looks so from the front."""
    check_view(rows, depth)
    return Card([stair_of_walls([row[column] for row in rows], depth) for column in range(len(rows[0]))])


def from_above(rows, height):
    """The card without slits that looks so from above."""
    return from_front(rows, height).turned()


def lit(card, sun=0):
    """For each column how many squares are lit from the left by a sun so far up."""
    many = []
    # The leaf on the left has no squares.
    left = []
    for stair in card.stairs():
        own = squares(stair)
        many.append(len([square for square in own if square[1] > sun and square not in left]))
        left = own
    return many


def reaching(card, least=8):
    """The columns, rising, of which some wall cell stands so far forward or farther."""
    # The lowest wall cell of a column stands the farthest forward.
    return [column for column, far in enumerate(front(card)[-1]) if far >= least]
