"""Stairs: texts of `w` and `f`, from the wall's upper edge to the floor's fore edge."""

from upleaf.errors import BadSize, BadStair, NoCorner

LONGEST_SIDE = 8


def is_stair(stair):
    height = stair.count("w")
    depth = stair.count("f")
    return height + depth == len(stair) and is_size(height, depth)


def is_size(height, depth):
    return 1 <= height <= LONGEST_SIDE and 1 <= depth <= LONGEST_SIDE


def check_stair(stair):
    if not is_stair(stair):
        raise BadStair()


def sides(stair):
    """The stair's height and depth."""
    check_stair(stair)
    return stair.count("w"), stair.count("f")


def checked_size(height, depth):
    """Height and depth, as deep as high where no depth is told."""
    deep = height if depth is None else depth
    if not is_size(height, deep):
        raise BadSize(f"height and depth are from 1 to {LONGEST_SIDE}")
    return height, deep


def plain(height, depth=None):
    """The stair with all `w` first, as deep as high where no depth is told."""
    high, deep = checked_size(height, depth)
    return "w" * high + "f" * deep


def corners(stair):
    """How far forward and how far up each corner is, the uppermost first."""
    check_stair(stair)
    forward, up = 0, stair.count("w")
    told = [(forward, up)]
    for cell in stair:
        if cell == "w":
            up -= 1
        else:
            forward += 1
        told.append((forward, up))
    return told


def squares(stair):
    """The squares (forward, up) behind the stair, rising."""
    told = []
    for cell, (forward, up) in zip(stair, corners(stair)):
        if cell == "w":
            told.extend([(step, up) for step in range(1, forward + 1)])
    return sorted(told)


def turned(stair):
    """The stair with wall and floor exchanged."""
    check_stair(stair)
    return "".join(["f" if cell == "w" else "w" for cell in stair[::-1]])


def pushed(stair, corner):
    """The stair with the two unlike cells beside the corner exchanged."""
    check_stair(stair)
    if not 1 <= corner < len(stair) or stair[corner - 1] == stair[corner]:
        raise NoCorner("no corner between two unlike cells")
    return stair[:corner - 1] + stair[corner] + stair[corner - 1] + stair[corner + 1:]


def cells_meet(left, right, at):
    """Whether the cells `at` of two stairs side by side fall together; only the cells up to there are needed."""
    return left[at] == right[at] and left[:at].count("w") == right[:at].count("w")
