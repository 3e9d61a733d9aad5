"""Rooms that several tests try."""

import random

from upleaf.errors import RoomError
from upleaf.room import Room

# One deed of each kind, which can be done in this order in a new room.
ELEVEN = [
    ("cut", "ox", 2, 2, 2), ("push", "ox", 0, 2), ("slit", "ox", 1, 0), ("mirror", "ox"), ("glue", "ox", 1, None),
    ("turn", "ox"), ("keep", "plan", "ox"), ("part", "ox", 1, "cow"), ("beside", "cow", "ox"), ("burn", "cow"),
    ("drop", "plan"),
]
LINES = [
    "cut ox 2 2 2", "push ox 0 2", "slit ox 1 0", "mirror ox", "glue ox 1 -", "turn ox", "keep plan ox",
    "part ox 1 cow", "beside cow ox", "burn cow", "drop plan",
]
# Lines of deeds with as many blanks as they need, but without one of their names.
NAMELESS = [
    "cut  2 2 2", "push  0 2", "slit  1 0", "mirror ", "glue  1 -", "turn ", "keep  ox", "keep plan ", "part  1 cow",
    "part ox 1 ", "beside  ox", "beside cow ", "burn ", "drop ",
]


def seen(room):
    """All that is told of a room."""
    return (
        len(room), room.names(), [repr(room.card(name)) for name in room.names()], room.plans(),
        [room.plan(plan) for plan in room.plans()], room.deeds(), room.waiting(),
    )


def shown(room):
    """All that a room has, its deeds left out of sight."""
    return seen(room)[:5]


def room_of(**cards):
    """A room that got these cards, told as texts, by deeds."""
    room = Room()
    for name, stairs in cards.items():
        stairs = stairs.split("/")
        room.cut(name, stairs[0].count("w"), stairs[0].count("f"), len(stairs))
        for column, stair in enumerate(stairs):
            lead(room, name, column, stair)
    return room


def lead(room, name, column, goal):
    while room.card(name).stair(column) != goal:
        now = room.card(name).stair(column)
        first = [k for k in range(len(goal)) if now[k] != goal[k]][0]
        room.push(name, column, now.index(goal[first], first))


def some_deed(chance, room):
    """A deed that may be done or be refused."""
    names = [*room.names(), chance.choice(("a", "b", "c", "d", "Bad"))]
    plans = [*room.plans(), chance.choice(("p", "q", "r", "no good"))]
    name, other, plan = chance.choice(names), chance.choice(names), chance.choice(plans)
    return chance.choice((
        ("cut", chance.choice("abcdefghijklmn"), chance.randint(0, 3), chance.randint(1, 3), chance.randint(1, 3)),
        ("push", name, chance.randint(0, 2), chance.randint(0, 5)),
        ("push", name, chance.randint(0, 2), chance.randint(1, 4)),
        ("push", name, 0, chance.randint(1, 4)),
        ("slit", name, chance.randint(0, 3), chance.randint(0, 5)),
        ("slit", name, chance.randint(0, 3), chance.randint(0, 3)),
        ("glue", name, chance.randint(0, 3), chance.choice((None, 0, 1, 2))),
        ("mirror", name),
        ("turn", name),
        ("beside", name, other),
        ("part", name, chance.randint(0, 3), chance.choice("abcdefghijklmn")),
        ("burn", name),
        ("keep", chance.choice("pqrstuvwxyz"), name),
        ("drop", plan),
    ))


def grown_room(many, number=1):
    """A room with so many deeds done, and all that it showed ahead of each of them and at the end."""
    chance = random.Random(number)
    room = Room()
    shows = [shown(room)]
    while len(room.deeds()) < many:
        try:
            room.do(some_deed(chance, room))
        except (ValueError, RoomError):
            continue
        shows.append(shown(room))
    return room, shows
