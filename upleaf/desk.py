"""A desk: it answers lines about its room."""

from upleaf.errors import BadText, CardError, NoCard, NoPlan, RoomError, Taken
from upleaf.motion import freedom, loose_patches
from upleaf.notes import deed_line, line_words, read_deed
from upleaf.pushes import apart
from upleaf.room import Room
from upleaf.sheet import drawing
from upleaf.views import front


def several(things):
    return " ".join([str(thing) for thing in things]) or "-"


def answer_undo(room):
    return deed_line(room.undo()[0])


def answer_redo(room):
    return deed_line(room.redo()[0])


def answer_names(room):
    return several(room.names())


def answer_alike(room, plan):
    return several(room.alike(plan))


def answer_card(room, name):
    return str(room.card(name))


def answer_stiff(room, name):
    return str(freedom(room.card(name)))


def answer_loose(room, name):
    return several(loose_patches(room.card(name)))


def answer_front(room, name):
    return "/".join([several(row) for row in front(room.card(name))])


def answer_apart(room, name, other):
    return str(apart(room.card(name), room.card(other)))


def answer_draw(room, name):
    return "/".join(drawing(room.card(name)))


def answer_spoilt(room, plan, name):
    row = room.spoilt(plan, name)
    return "good" if row is None else str(row)


# By the line's first word and the number of the others, which are names.
QUESTIONS = {
    ("undo", 0): answer_undo,
    ("redo", 0): answer_redo,
    ("names", 0): answer_names,
    ("names", 1): answer_alike,
    ("card", 1): answer_card,
    ("stiff", 1): answer_stiff,
    ("loose", 1): answer_loose,
    ("front", 1): answer_front,
    ("apart", 2): answer_apart,
    ("draw", 1): answer_draw,
    ("spoilt", 2): answer_spoilt,
}


def answer_deed(room, deed):
    told = room.do(deed)
    if told is None:
        return "done"
    return "/".join(told) if deed[0] == "drop" else str(told)


def answer(room, line):
    words = line_words(line)
    names = words[1:]
    if words and (words[0], len(names)) in QUESTIONS:
        question = QUESTIONS[words[0], len(names)]
        return question(room, *names)
    return answer_deed(room, read_deed(line))


class Desk:
    """Answers lines about that very room, or about a new one."""

    def __init__(self, room=None):
        # A room without cards is false, but it is a room.
        self.own = Room() if room is None else room

    def room(self):
        return self.own

    def say(self, line):
        """The answer to a line; what is refused is answered, too."""
        try:
            return answer(self.own, line)
        except BadText:
            return "what"
        except NoCard as no_card:
            return f"no card {no_card.name}"
        except NoPlan as no_plan:
            return f"no drawing {no_plan.name}"
        except Taken as taken:
            return f"taken {taken.name}"
        except (CardError, RoomError):
            return "refused"
