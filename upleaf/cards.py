"""Cards: columns of cells side by side between a wall and a floor."""

from upleaf.errors import BadSize, BadStair, NoColumn, NoEdge, NotJoined, NotSlit, Unlike, Wide
from upleaf.stairs import cells_meet, is_stair, plain, pushed, sides, turned

MOST_COLUMNS = 8


def is_width(columns):
    return 1 <= columns <= MOST_COLUMNS


def check_width(columns):
    if not is_width(columns):
        raise BadSize(f"a card has 1 to {MOST_COLUMNS} columns")


def check_columns(columns):
    check_width(len(columns))
    for column, stair in enumerate(columns):
        # Column 0 is known to be a stair by the time another one is compared with it.
        if not is_stair(stair) or sides(stair) != sides(columns[0]):
            raise BadStair(column)


def has_cell(columns, edge, at):
    return 0 <= edge <= len(columns) and 0 <= at < len(columns[0])


def fall_together(columns, edge, at):
    """Whether the cells `at` of both sides of the edge lie at the same place."""
    height, depth = sides(columns[0])
    leaf = plain(height, depth)
    stairs = [leaf, *columns, leaf]
    return cells_meet(stairs[edge], stairs[edge + 1], at)


def check_slits(columns, slits):
    for edge, at in slits:
        if not has_cell(columns, edge, at):
            raise NoEdge("no such edge or cell")
        if not fall_together(columns, edge, at):
            raise NotJoined("these cells don't fall together")


class Card:
    """A card; nothing ever changes it."""

    def __init__(self, stairs, slits=None):
        check_columns(stairs)
        rising = sorted(set([] if slits is None else slits))
        check_slits(stairs, rising)
        self.columns = tuple(stairs)
        self.gaps = tuple(rising)

    def height(self):
        return self.columns[0].count("w")

    def depth(self):
        return self.columns[0].count("f")

    def cells(self):
        """How many cells each column has."""
        return len(self.columns[0])

    def stairs(self):
        return list(self.columns)

    def slits(self):
        """The pairs (edge, cell) that are slit, rising."""
        return list(self.gaps)

    def stair(self, column):
        if not 0 <= column < len(self.columns):
            raise NoColumn("no such column")
        return self.columns[column]

    def joined(self, edge, at):
        """Whether the cells `at` of both sides of the edge are joined."""
        if not has_cell(self.columns, edge, at):
            raise NoEdge("no such edge or cell")
        return fall_together(self.columns, edge, at) and (edge, at) not in self.gaps

    def pushed(self, column, corner):
        """The card with that corner of the column pushed."""
        stair = pushed(self.stair(column), corner)
        stairs = self.stairs()
        stairs[column] = stair
        return Card(stairs, [(edge, at) for edge, at in self.gaps if fall_together(stairs, edge, at)])

    def slit(self, edge, at):
        """The card with a slit more."""
        if not self.joined(edge, at):
            raise NotJoined("these cells aren't joined")
        return Card(self.stairs(), [*self.gaps, (edge, at)])

    def glued(self, edge, at=None):
        """The card without that slit, or without all slits of the edge."""
        if not has_cell(self.columns, edge, 0 if at is None else at):
            raise NoEdge("no such edge or cell")
        gone = [slit for slit in self.gaps if slit[0] == edge and at in (None, slit[1])]
        if not gone:
            raise NotSlit("there is no slit")
        return Card(self.stairs(), [slit for slit in self.gaps if slit not in gone])

    def mirrored(self):
        """The card with left and right exchanged."""
        last = len(self.columns)
        return Card(self.stairs()[::-1], [(last - edge, at) for edge, at in self.gaps])

    def turned(self):
        """The card with wall and floor exchanged."""
        last = self.cells() - 1
        return Card([turned(stair) for stair in self.columns], [(edge, last - at) for edge, at in self.gaps])

    def beside(self, other):
        """The card with the other one's columns going on at its right."""
        if sides(self.columns[0]) != sides(other.stair(0)):
            raise Unlike("the cards have unlike heights or depths")
        many = len(self.columns)
        if many + len(other.stairs()) > MOST_COLUMNS:
            raise Wide(f"a card has at most {MOST_COLUMNS} columns")
        # The leaves between the two cards are none any more, so their edges' slits go.
        kept = [(edge, at) for edge, at in self.gaps if edge != many]
        moved = [(many + edge, at) for edge, at in other.slits() if edge != 0]
        return Card(self.stairs() + other.stairs(), kept + moved)

    def parted(self, at):
        """Two cards: the columns ahead of the edge, and the others."""
        if not 1 <= at < len(self.columns):
            raise NoEdge("no edge between two columns")
        # The edge itself lies at leaves from now on, so its slits go.
        ahead = [slit for slit in self.gaps if slit[0] < at]
        behind = [(edge - at, cell) for edge, cell in self.gaps if edge > at]
        return Card(self.stairs()[:at], ahead), Card(self.stairs()[at:], behind)

    def __eq__(self, other):
        return isinstance(other, Card) and self.columns == other.columns and self.gaps == other.gaps

    def __len__(self):
        return len(self.columns)

    def __str__(self):
        words = ["/".join(self.columns)]
        words += [f"{edge}.{at}" for edge, at in self.gaps]
        return " ".join(words)

    def __repr__(self):
        return f"Card({list(self.columns)!r}, {list(self.gaps)!r})"
