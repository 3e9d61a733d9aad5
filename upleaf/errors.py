"""What is refused: one class for each kind of refusal."""


class CardError(ValueError):
    """Something is wrong with a card, or with what is asked of one."""


class BadSize(CardError):
    """A height, a depth or a number of columns is not from 1 to 8."""


class BadStair(CardError):
    """A text is no stair, or a stair of another size than the first one."""

    def __init__(self, at=0):
        CardError.__init__(self, f"no fitting stair at {at}")
        self.at = at


class BadNumber(CardError):
    """No stair or card has this number."""


class NoColumn(CardError):
    """The card has no such column."""


class NoCell(CardError):
    """The column has no such cell."""


class NoCorner(CardError):
    """There is no such corner between two unlike cells."""


class NoEdge(CardError):
    """The card has no such edge, or the edge no such cell."""


class NotJoined(CardError):
    """The cells at the edge are not joined."""


class NotSlit(CardError):
    """There is no such slit."""


class Unlike(CardError):
    """Two cards are not of one size."""


class Wide(CardError):
    """A card would have more than 8 columns."""


class BadView(CardError):
    """No card looks so."""

    def __init__(self, row):
        CardError.__init__(self, f"row {row} of the view is wrong")
        self.row = row


class BadDrawing(CardError):
    """A list of rows is no drawing."""

    def __init__(self, row):
        CardError.__init__(self, f"row {row} of the drawing is wrong")
        self.row = row


class NoPatch(CardError):
    """The card has no such patch."""


class TooMany(CardError):
    """The card has more slits than are looked through."""


class BadName(CardError):
    """A name is not one to eight letters from a to z."""


class BadText(CardError):
    """A text can't be read."""

    def __init__(self, row=0):
        CardError.__init__(self, f"row {row} of the text is wrong")
        self.row = row


class RoomError(LookupError):
    """A room lacks something, or has it already."""


class NoCard(RoomError):
    """The room has no card of this name."""

    def __init__(self, name):
        RoomError.__init__(self, f"no card {name}")
        self.name = name


class NoPlan(RoomError):
    """The room keeps no drawing of this name."""

    def __init__(self, name):
        RoomError.__init__(self, f"no drawing {name}")
        self.name = name


class Taken(RoomError):
    """The name is in use already."""

    def __init__(self, name):
        RoomError.__init__(self, f"taken {name}")
        self.name = name


class SameCard(RoomError):
    """A card can't be set beside itself."""


class Full(RoomError):
    """The room has no place for one more."""


class NothingLeft(RoomError):
    """There are not so many deeds to take back or to do again."""
