"""A room: cards and kept drawings by names, changed by deeds that can be taken back."""

from upleaf.cards import Card, check_width
from upleaf.errors import BadName, Full, NoCard, NoPlan, NothingLeft, SameCard, Taken
from upleaf.sheet import drawing
from upleaf.stairs import plain

MOST_CARDS = 12
MOST_PLANS = 8
LONGEST_NAME = 8
LETTERS = "abcdefghijklmnopqrstuvwxyz"


class Shelf:
    """What a room has at one time."""

    def __init__(self, cards, drawings):
        self.cards = dict(cards)
        self.drawings = dict(drawings)


def card_of(shelf, name):
    if name not in shelf.cards:
        raise NoCard(name)
    return shelf.cards[name]


def rows_of(shelf, plan):
    if plan not in shelf.drawings:
        raise NoPlan(plan)
    return list(shelf.drawings[plan])


def is_name(name):
    return 1 <= len(name) <= LONGEST_NAME and all([sign in LETTERS for sign in name])


def check_fresh(things, name, most):
    """Whether one thing more can have this name."""
    if not is_name(name):
        raise BadName(f"a name is 1 to {LONGEST_NAME} letters a to z")
    if name in things:
        raise Taken(name)
    if len(things) >= most:
        raise Full(f"there is room for {most}")


def do_cut(shelf, name, height, depth, columns):
    stair = plain(height, depth)
    check_width(columns)
    check_fresh(shelf.cards, name, MOST_CARDS)
    shelf.cards[name] = Card([stair] * columns)


def do_push(shelf, name, column, corner):
    shelf.cards[name] = card_of(shelf, name).pushed(column, corner)


def do_slit(shelf, name, edge, at):
    shelf.cards[name] = card_of(shelf, name).slit(edge, at)


def do_glue(shelf, name, edge, at):
    shelf.cards[name] = card_of(shelf, name).glued(edge, at)


def do_mirror(shelf, name):
    shelf.cards[name] = card_of(shelf, name).mirrored()


def do_turn(shelf, name):
    shelf.cards[name] = card_of(shelf, name).turned()


def do_beside(shelf, name, other):
    left = card_of(shelf, name)
    right = card_of(shelf, other)
    if name == other:
        raise SameCard("a card isn't set beside itself")
    shelf.cards[name] = left.beside(right)
    del shelf.cards[other]


def do_part(shelf, name, at, fresh):
    left, right = card_of(shelf, name).parted(at)
    check_fresh(shelf.cards, fresh, MOST_CARDS)
    shelf.cards[name] = left
    shelf.cards[fresh] = right


def do_burn(shelf, name):
    card = card_of(shelf, name)
    del shelf.cards[name]
    return card


def do_keep(shelf, plan, name):
    rows = drawing(card_of(shelf, name))
    check_fresh(shelf.drawings, plan, MOST_PLANS)
    shelf.drawings[plan] = tuple(rows)


def do_drop(shelf, plan):
    rows = rows_of(shelf, plan)
    del shelf.drawings[plan]
    return rows


DEEDS = {
    "cut": do_cut,
    "push": do_push,
    "slit": do_slit,
    "glue": do_glue,
    "mirror": do_mirror,
    "turn": do_turn,
    "beside": do_beside,
    "part": do_part,
    "burn": do_burn,
    "keep": do_keep,
    "drop": do_drop,
}


class Room:
    """Cards and kept drawings by names; each deed that was done, and what the room had ahead of it, stays known."""

    def __init__(self):
        # No shelf is changed once it stands here, so twins may share them.
        self.shelves = [Shelf({}, {})]
        self.record = []
        self.many = 0

    def shelf(self):
        """What the room has now."""
        return self.shelves[self.many]

    def do(self, deed):
        """Does a deed, told as a tuple of its name and all that is handed to it."""
        word, *handed = deed
        action = DEEDS[word]
        now = self.shelf()
        fresh = Shelf(now.cards, now.drawings)
        told = action(fresh, *handed)
        self.shelves[self.many + 1:] = [fresh]
        self.record[self.many:] = [deed]
        self.many += 1
        return told

    def cut(self, name, height, depth=None, columns=1):
        """A new card of plain stairs, as deep as high where no depth is told."""
        return self.do(("cut", name, height, height if depth is None else depth, columns))

    def push(self, name, column, corner):
        return self.do(("push", name, column, corner))

    def slit(self, name, edge, at):
        return self.do(("slit", name, edge, at))

    def glue(self, name, edge, at=None):
        """The card without that slit, or without all slits of the edge."""
        return self.do(("glue", name, edge, at))

    def mirror(self, name):
        return self.do(("mirror", name))

    def turn(self, name):
        return self.do(("turn", name))

    def beside(self, name, other):
        """The other card is set beside this one and is no more by itself."""
        return self.do(("beside", name, other))

    def part(self, name, at, fresh):
        """What is on the right of the edge becomes the card `fresh`."""
        return self.do(("part", name, at, fresh))

    def burn(self, name):
        """Tells the card, which is no more."""
        return self.do(("burn", name))

    def keep(self, plan, name):
        """Keeps the card's drawing, whatever becomes of the card."""
        return self.do(("keep", plan, name))

    def drop(self, plan):
        """Tells the rows, which are kept no more."""
        return self.do(("drop", plan))

    def undo(self, times=1):
        """Takes back the last deeds and tells them, the last one first."""
        if not 1 <= times <= self.many:
            raise NothingLeft("not so many deeds can be taken back")
        self.many -= times
        return self.waiting()[:times][::-1]

    def redo(self, times=1):
        """Does again what was taken back and tells it, the one taken back last first."""
        again = self.waiting()
        if not 1 <= times <= len(again):
            raise NothingLeft("not so many deeds can be done again")
        self.many += times
        return again[:times]

    def deeds(self):
        """The deeds that count, the eldest first."""
        return self.record[:self.many]

    def waiting(self):
        """The deeds that can be done again, the next one first."""
        return self.record[self.many:]

    def twin(self):
        """A room that has all that this one has and goes its own way."""
        other = Room()
        other.shelves = list(self.shelves)
        other.record = list(self.record)
        other.many = self.many
        return other

    def names(self):
        return sorted(self.shelf().cards)

    def plans(self):
        return sorted(self.shelf().drawings)

    def card(self, name):
        return card_of(self.shelf(), name)

    def plan(self, plan):
        """The rows of the kept drawing."""
        return rows_of(self.shelf(), plan)

    def spoilt(self, plan, name):
        """The first row in which the kept drawing and the card's differ; None where they are alike."""
        kept = self.plan(plan)
        rows = drawing(self.card(name))
        for row in range(max(len(kept), len(rows))):
            # A slice is empty where the row lacks.
            if kept[row:row + 1] != rows[row:row + 1]:
                return row
        return None

    def alike(self, plan):
        """The names of the cards that have this drawing, rising."""
        kept = self.plan(plan)
        return [name for name in self.names() if drawing(self.card(name)) == kept]

    def __len__(self):
        return len(self.shelf().cards)
