"""The sheet: which edges are joined and cut, the creases, and drawings of both."""

from upleaf.cards import Card, is_width
from upleaf.errors import BadDrawing
from upleaf.stairs import cells_meet, plain

# The sign of a crease by the cells ahead of it and behind it.
CREASES = {"ww": "-", "wf": "v", "fw": "^", "ff": "-"}
# The cell behind a crease by the one ahead and the crease's sign.
BEHIND = {"w-": "w", "wv": "f", "f^": "w", "f-": "f"}
SIDE_SIGNS = "12345678"


def all_edges(card):
    return [(edge, at) for edge in range(len(card) + 1) for at in range(card.cells())]


def joined_edges(card):
    """The pairs (edge, cell) that are joined, rising."""
    return [(edge, at) for edge, at in all_edges(card) if card.joined(edge, at)]


def cut_edges(card):
    """The pairs (edge, cell) that are cut, slits among them, rising."""
    return [(edge, at) for edge, at in all_edges(card) if not card.joined(edge, at)]


def crease_signs(stair):
    """The sign of each corner, the leaves' paper being ahead of the first cell and behind the last one."""
    paper = "w" + stair + "f"
    return "".join([CREASES[paper[corner:corner + 2]] for corner in range(len(stair) + 1)])


def creases(card):
    """Triples (column, corner, whether it goes in), rising."""
    return [
        (column, corner, sign == "v")
        for column, stair in enumerate(card.stairs())
        for corner, sign in enumerate(crease_signs(stair))
        if sign != "-"
    ]


def edges_row(card, at):
    return "".join(["." if card.joined(edge, at) else "|" for edge in range(len(card) + 1)])


def drawing(card):
    """The rows of the card's drawing."""
    signs = [crease_signs(stair) for stair in card.stairs()]
    rows = [f"{card.height()} {card.depth()}"]
    for corner in range(card.cells() + 1):
        if corner > 0:
            rows.append(edges_row(card, corner - 1))
        rows.append("".join([column[corner] for column in signs]))
    return rows


def read_leaf(rows):
    """The leaves' stair, of the size that row 0 tells."""
    first = rows[0] if rows else ""
    if len(first) != 3 or first[0] not in SIDE_SIGNS or first[1] != " " or first[2] not in SIDE_SIGNS:
        raise BadDrawing(0)
    return plain(int(first[0]), int(first[2]))


def read_width(rows):
    """The number of columns, which row 1 is the first to tell."""
    if len(rows) < 2 or not is_width(len(rows[1])):
        raise BadDrawing(1)
    return len(rows[1])


def row_of(rows, at, many):
    if at >= len(rows) or len(rows[at]) != many:
        raise BadDrawing(at)
    return rows[at]


def read_creases(rows, at, stairs, most):
    """The stairs grown by the cells behind this row, no kind of cell standing in one more often than in `most`."""
    grown = []
    for stair, sign in zip(stairs, row_of(rows, at, len(stairs))):
        ahead = stair[-1] if stair else "w"
        cell = BEHIND.get(ahead + sign)
        if cell is None or stair.count(cell) == most.count(cell):
            raise BadDrawing(at)
        grown.append(stair + cell)
    return grown


def read_edges(rows, at, stairs, leaf):
    """The slits of this row, which tells of the stairs' last cells so far."""
    slits = []
    cell = len(stairs[0]) - 1
    beside = [leaf, *stairs, leaf]
    for edge, sign in enumerate(row_of(rows, at, len(stairs) + 1)):
        meet = cells_meet(beside[edge], beside[edge + 1], cell)
        if sign not in ".|" or (sign == "." and not meet):
            raise BadDrawing(at)
        if sign == "|" and meet:
            slits.append((edge, cell))
    return slits


def read_drawing(rows):
    """The card that has this drawing."""
    leaf = read_leaf(rows)
    stairs = [""] * read_width(rows)
    slits = []
    at = 1
    for cell in range(len(leaf)):
        stairs = read_creases(rows, at, stairs, leaf)
        slits += read_edges(rows, at + 1, stairs, leaf)
        at += 2
    # Behind the last corner one floor's paper more stands in each column, and nothing else fits there.
    read_creases(rows, at, stairs, leaf + "f")
    if len(rows) > at + 1:
        raise BadDrawing(at + 1)
    return Card(stairs, slits)
