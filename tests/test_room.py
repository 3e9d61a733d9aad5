import inspect
import itertools
import random
import string
import unittest

from rooms import ELEVEN, grown_room, lead, room_of, seen, shown
from samples import BAD_SIZES, FAR
from upleaf.cards import Card
from upleaf.errors import (
    BadName, BadSize, Full, NoCard, NoColumn, NoCorner, NoEdge, NoPlan, NotJoined, NotSlit, NothingLeft, RoomError,
    SameCard, Taken, Unlike, Wide,
)
from upleaf.room import Room
from upleaf.sheet import drawing
from upleaf.stairs import plain

BAD_NAMES = ("", "abcdefghi", "Ox", "oX", "o x", "ox1", "o-x", "-", "o.x", " ox", "ox ", "ox\n", "\n", "~", "a" * 200)


class RoomTest(unittest.TestCase):
    def refused(self, room, error, deed, name=None):
        """The deed is refused by do and by its method, and nothing is changed."""
        before = seen(room)
        for act in (lambda: room.do(deed), lambda: getattr(room, deed[0])(*deed[1:])):
            with self.assertRaises(error) as caught:
                act()
            self.assertIs(type(caught.exception), error)
            if name is not None:
                self.assertEqual(caught.exception.name, name)
            self.assertEqual(seen(room), before)


class Deeds(RoomTest):
    def test_cut(self):
        room = Room()
        self.assertIsNone(room.cut("ox", 3, 2, 4))
        self.assertEqual(room.card("ox"), Card(["wwwff"] * 4))
        self.assertIsNone(room.do(("cut", "cow", 1, 8, 8)))
        self.assertEqual(room.card("cow"), Card(["wffffffff"] * 8))

    def test_cut_with_something_left_out(self):
        room = Room()
        room.cut("a", 3)
        room.cut("b", 3, 2)
        room.cut("c", 3, columns=2)
        room.cut(columns=2, depth=1, height=4, name="d")
        room.cut("e", 2, None)
        room.cut("f", 2, None, 3)
        room.cut("g", 2, depth=None, columns=1)
        self.assertEqual(
            [str(room.card(name)) for name in room.names()],
            ["wwwfff", "wwwff", "wwwfff/wwwfff", "wwwwf/wwwwf", "wwff", "wwff/wwff/wwff", "wwff"],
        )
        self.assertEqual(
            room.deeds(),
            [
                ("cut", "a", 3, 3, 1), ("cut", "b", 3, 2, 1), ("cut", "c", 3, 3, 2), ("cut", "d", 4, 1, 2),
                ("cut", "e", 2, 2, 1), ("cut", "f", 2, 2, 3), ("cut", "g", 2, 2, 1),
            ],
        )

    def test_push(self):
        room = room_of(ox="wwff/wwff")
        self.assertIsNone(room.push("ox", 1, 2))
        self.assertEqual(str(room.card("ox")), "wwff/wfwf")
        self.assertIsNone(room.do(("push", "ox", 0, 2)))
        self.assertEqual(str(room.card("ox")), "wfwf/wfwf")
        room.push(corner=2, column=1, name="ox")
        self.assertEqual(str(room.card("ox")), "wfwf/wwff")

    def test_slit_and_glue(self):
        room = room_of(ox="wfwf/wwff")
        self.assertIsNone(room.slit("ox", 1, 0))
        self.assertIsNone(room.do(("slit", "ox", 1, 3)))
        room.slit(at=0, edge=0, name="ox")
        room.slit("ox", 2, 3)
        self.assertEqual(str(room.card("ox")), "wfwf/wwff 0.0 1.0 1.3 2.3")
        self.assertIsNone(room.glue("ox", 1, 3))
        self.assertEqual(str(room.card("ox")), "wfwf/wwff 0.0 1.0 2.3")
        room.slit("ox", 1, 3)
        self.assertIsNone(room.glue("ox", 1))
        self.assertEqual(str(room.card("ox")), "wfwf/wwff 0.0 2.3")
        self.assertIsNone(room.do(("glue", "ox", 0, 0)))
        self.assertIsNone(room.do(("glue", "ox", 2, None)))
        self.assertEqual(str(room.card("ox")), "wfwf/wwff")
        self.assertEqual(
            room.deeds()[-5:],
            [("glue", "ox", 1, 3), ("slit", "ox", 1, 3), ("glue", "ox", 1, None), ("glue", "ox", 0, 0),
             ("glue", "ox", 2, None)],
        )

    def test_glue_by_keywords(self):
        room = room_of(ox="wfwf/wwff")
        for deed in ({"edge": 1}, {"edge": 1, "at": None}, {"edge": 1, "at": 0}):
            room.slit("ox", 1, 0)
            room.glue(name="ox", **deed)
            self.assertEqual(room.card("ox").slits(), [])

    def test_mirror_and_turn(self):
        room = room_of(ox="wwf/wfw")
        room.slit("ox", 0, 0)
        self.assertIsNone(room.mirror("ox"))
        self.assertEqual(str(room.card("ox")), "wfw/wwf 2.0")
        self.assertIsNone(room.turn("ox"))
        self.assertEqual(str(room.card("ox")), "fwf/wff 2.2")
        self.assertIsNone(room.do(("mirror", "ox")))
        self.assertIsNone(room.do(("turn", "ox")))
        self.assertEqual(str(room.card("ox")), "wwf/wfw 0.0")

    def test_beside(self):
        room = room_of(ox="wwf/wfw", cow="fww")
        room.slit("ox", 0, 0)
        self.assertIsNone(room.beside("ox", "cow"))
        self.assertEqual((room.names(), str(room.card("ox"))), (["ox"], "wwf/wfw/fww 0.0"))
        with self.assertRaises(NoCard):
            room.card("cow")
        room.cut("cow", 2, 1)
        self.assertIsNone(room.do(("beside", "cow", "ox")))
        self.assertEqual((room.names(), str(room.card("cow"))), (["cow"], "wwf/wwf/wfw/fww"))
        room.cut("pig", 2, 1)
        room.beside(other="pig", name="cow")
        self.assertEqual(len(room.card("cow")), 5)

    def test_part(self):
        room = room_of(ox="wwf/wfw/fww")
        room.slit("ox", 0, 0)
        self.assertIsNone(room.part("ox", 2, "cow"))
        self.assertEqual((str(room.card("ox")), str(room.card("cow"))), ("wwf/wfw 0.0", "fww"))
        self.assertIsNone(room.do(("part", "ox", 1, "pig")))
        self.assertEqual((str(room.card("ox")), str(room.card("pig"))), ("wwf 0.0", "wfw"))
        room.beside("ox", "pig")
        room.part(fresh="pig", at=1, name="ox")
        self.assertEqual(room.names(), ["cow", "ox", "pig"])

    def test_burn_tells_the_card(self):
        room = room_of(ox="wwf/wfw", cow="fww")
        told = room.burn("ox")
        self.assertIsInstance(told, Card)
        self.assertEqual((told, room.names()), (Card(["wwf", "wfw"]), ["cow"]))
        self.assertEqual((room.do(("burn", "cow")), room.names()), (Card(["fww"]), []))
        room.cut("ox", 1)
        self.assertEqual(room.burn(name="ox"), Card(["wf"]))

    def test_keep_and_drop(self):
        room = room_of(ox="wfwf/wwff")
        room.slit("ox", 1, 0)
        rows = drawing(room.card("ox"))
        self.assertIsNone(room.keep("plan", "ox"))
        self.assertIsNone(room.do(("keep", "other", "ox")))
        room.keep(name="ox", plan="third")
        self.assertEqual(room.plans(), ["other", "plan", "third"])
        told = room.drop("plan")
        self.assertIsInstance(told, list)
        self.assertEqual((told, room.plans()), (rows, ["other", "third"]))
        self.assertEqual((room.do(("drop", "other")), room.drop(plan="third")), (rows, rows))
        self.assertEqual(room.plans(), [])

    def test_a_kept_drawing_stays_whatever_becomes_of_the_card(self):
        for deed in (("push", "ox", 0, 2), ("slit", "ox", 1, 0), ("mirror", "ox"), ("turn", "ox"), ("burn", "ox"),
                     ("part", "ox", 1, "cow"), ("beside", "ox", "pig"), ("beside", "pig", "ox")):
            room = room_of(ox="wwff/wfwf", pig="ffww")
            rows = drawing(room.card("ox"))
            room.keep("plan", "ox")
            room.do(deed)
            self.assertEqual(room.plan("plan"), rows, deed)
            self.assertEqual(room.drop("plan"), rows)

    def test_cards_and_drawings_may_have_the_same_names(self):
        room = room_of(ox="wf")
        room.keep("ox", "ox")
        room.cut("plan", 1)
        room.keep("plan", "plan")
        self.assertEqual((room.names(), room.plans()), (["ox", "plan"], ["ox", "plan"]))

    def test_all_eleven_by_do_and_by_method(self):
        one, other = Room(), Room()
        for deed in ELEVEN:
            told = one.do(deed)
            self.assertEqual(told, getattr(other, deed[0])(*deed[1:]))
            self.assertEqual(told is None, deed[0] not in ("burn", "drop"))
            self.assertEqual(seen(one), seen(other))
        self.assertEqual(one.deeds(), ELEVEN)
        self.assertEqual({type(deed) for deed in other.deeds()}, {tuple})


class Refusals(RoomTest):
    def test_cut(self):
        room = room_of(ox="wf")
        for side in BAD_SIZES:
            for name in ("cow", "ox", "Bad"):
                self.refused(room, BadSize, ("cut", name, side, 2, 2))
                self.refused(room, BadSize, ("cut", name, 2, side, 2))
                self.refused(room, BadSize, ("cut", name, 2, 2, side))
            with self.assertRaises(BadSize):
                room.cut("cow", side)
        for name in BAD_NAMES:
            self.refused(room, BadName, ("cut", name, 2, 2, 2))
        self.refused(room, Taken, ("cut", "ox", 2, 2, 2), "ox")

    def test_names(self):
        room = Room()
        for name in ("a", "z", "ab", "abcdefgh", "zzzzzzzz"):
            room.cut(name, 1)
            room.keep(name, name)
        self.assertEqual(room.names(), ["a", "ab", "abcdefgh", "z", "zzzzzzzz"])
        self.assertEqual(room.plans(), room.names())
        for sign in map(chr, [10, *range(32, 127)]):
            for name in (sign, "a" + sign, sign + "a"):
                if sign not in string.ascii_lowercase and sign != "%":
                    self.refused(room, BadName, ("cut", name, 1, 1, 1))

    def test_changes_of_a_card(self):
        room = room_of(ox="wfwf/wwff")
        room.slit("ox", 1, 0)
        cases = [
            (NoColumn, ("push", "ox", 2, 2)), (NoColumn, ("push", "ox", -1, 9)), (NoCorner, ("push", "ox", 1, 1)),
            (NoCorner, ("push", "ox", 0, 0)), (NoCorner, ("push", "ox", 0, FAR)),
            (NoEdge, ("slit", "ox", 3, 0)), (NoEdge, ("slit", "ox", 0, 4)), (NoEdge, ("slit", "ox", -1, 0)),
            (NotJoined, ("slit", "ox", 1, 0)), (NotJoined, ("slit", "ox", 0, 1)),
            (NoEdge, ("glue", "ox", 3, None)), (NoEdge, ("glue", "ox", 1, 4)), (NoEdge, ("glue", "ox", -1, 0)),
            (NotSlit, ("glue", "ox", 1, 1)), (NotSlit, ("glue", "ox", 0, None)),
        ]
        for error, deed in cases:
            self.refused(room, error, deed)

    def test_no_card(self):
        room = room_of(ox="wf")
        room.keep("plan", "ox")
        deeds = [
            ("push", "cow", 9, 9), ("slit", "cow", 9, 9), ("glue", "cow", 9, None), ("mirror", "cow"), ("turn", "cow"),
            ("beside", "cow", "ox"), ("beside", "cow", "cow"), ("part", "cow", 9, "Bad"), ("burn", "cow"),
            ("keep", "Bad", "cow"), ("keep", "plan", "cow"),
        ]
        for deed in deeds:
            self.refused(room, NoCard, deed, "cow")
        for name in BAD_NAMES + ("plan",):
            self.refused(room, NoCard, ("burn", name), name)

    def test_beside(self):
        room = room_of(ox="wf/wf/wf/wf", cow="wff", pig="wwf", hen="wf/wf/wf/wf/wf",
                       bee="wff/wff/wff/wff/wff/wff/wff/wff")
        self.refused(room, NoCard, ("beside", "no", "nor"), "no")
        self.refused(room, NoCard, ("beside", "ox", "nor"), "nor")
        self.refused(room, NoCard, ("beside", "nor", "ox"), "nor")
        for name in ("ox", "hen", "bee"):
            self.refused(room, SameCard, ("beside", name, name))
        for name, other in itertools.permutations(("ox", "cow", "pig"), 2):
            self.refused(room, Unlike, ("beside", name, other))
        self.refused(room, Unlike, ("beside", "ox", "bee"))
        self.refused(room, Unlike, ("beside", "bee", "hen"))
        self.refused(room, Wide, ("beside", "ox", "hen"))
        self.refused(room, Wide, ("beside", "hen", "ox"))
        self.refused(room, Wide, ("beside", "bee", "cow"))

    def test_part(self):
        room = room_of(ox="wf/wf/wf", cow="wf")
        for at in (0, 3, -1, 4, FAR, -FAR):
            for fresh in ("pig", "Bad", "ox"):
                self.refused(room, NoEdge, ("part", "ox", at, fresh))
        self.refused(room, NoEdge, ("part", "cow", 1, "cow"))
        for fresh in BAD_NAMES:
            self.refused(room, BadName, ("part", "ox", 1, fresh))
        self.refused(room, Taken, ("part", "ox", 1, "cow"), "cow")
        self.refused(room, Taken, ("part", "ox", 1, "ox"), "ox")

    def test_keep(self):
        room = room_of(ox="wf", cow="wff")
        room.keep("plan", "ox")
        for plan in BAD_NAMES:
            self.refused(room, BadName, ("keep", plan, "ox"))
            self.refused(room, NoCard, ("keep", plan, "no"), "no")
        self.refused(room, Taken, ("keep", "plan", "ox"), "plan")
        self.refused(room, Taken, ("keep", "plan", "cow"), "plan")
        self.refused(room, NoCard, ("keep", "plan", "no"), "no")

    def test_drop(self):
        room = room_of(ox="wf")
        room.keep("plan", "ox")
        for plan in ("ox", "no", *BAD_NAMES):
            self.refused(room, NoPlan, ("drop", plan), plan)
        room.drop("plan")
        self.refused(room, NoPlan, ("drop", "plan"), "plan")

    def test_twelve_cards_and_one_more(self):
        room = Room()
        for name in "abcdefghijkl":
            room.cut(name, 1, 1, 2)
        self.assertEqual(len(room), 12)
        self.refused(room, Full, ("cut", "m", 1, 1, 1))
        self.refused(room, Full, ("part", "a", 1, "m"))
        self.refused(room, BadSize, ("cut", "m", 9, 1, 1))
        self.refused(room, BadName, ("cut", "M", 1, 1, 1))
        self.refused(room, Taken, ("cut", "a", 1, 1, 1), "a")
        self.refused(room, NoEdge, ("part", "a", 2, "m"))
        self.refused(room, BadName, ("part", "a", 1, "M"))
        self.refused(room, Taken, ("part", "a", 1, "b"), "b")
        self.refused(room, Taken, ("part", "a", 1, "a"), "a")
        room.beside("a", "b")
        room.part("a", 1, "m")
        self.assertEqual(len(room), 12)
        self.refused(room, Full, ("cut", "b", 1, 1, 1))
        room.burn("c")
        room.cut("b", 1)
        self.refused(room, Full, ("cut", "c", 1, 1, 1))

    def test_eight_drawings_and_one_more(self):
        room = room_of(ox="wf")
        for plan in "abcdefgh":
            room.keep(plan, "ox")
        self.refused(room, Full, ("keep", "i", "ox"))
        self.refused(room, NoCard, ("keep", "i", "cow"), "cow")
        self.refused(room, BadName, ("keep", "I", "ox"))
        self.refused(room, Taken, ("keep", "a", "ox"), "a")
        room.cut("cow", 1)
        room.drop("a")
        room.keep("i", "cow")
        self.refused(room, Full, ("keep", "a", "cow"))
        self.assertEqual(room.plans(), list("bcdefghi"))

    def test_refused_deeds_are_not_among_the_deeds(self):
        room = room_of(ox="wf")
        before = room.deeds()
        for deed in (("cut", "ox", 1, 1, 1), ("burn", "cow"), ("push", "ox", 0, 9)):
            with self.assertRaises((ValueError, RoomError)):
                room.do(deed)
        self.assertEqual(room.deeds(), before)


class TakingBack(RoomTest):
    def all_done(self):
        room = Room()
        for deed in ELEVEN:
            room.do(deed)
        return room

    def test_one(self):
        room = Room()
        room.cut("ox", 2)
        room.push("ox", 0, 2)
        self.assertEqual(room.undo(), [("push", "ox", 0, 2)])
        self.assertEqual(str(room.card("ox")), "wwff")
        self.assertEqual((room.deeds(), room.waiting()), ([("cut", "ox", 2, 2, 1)], [("push", "ox", 0, 2)]))
        self.assertEqual(room.redo(), [("push", "ox", 0, 2)])
        self.assertEqual(str(room.card("ox")), "wfwf")
        self.assertEqual((room.deeds(), room.waiting()), ([("cut", "ox", 2, 2, 1), ("push", "ox", 0, 2)], []))

    def test_several(self):
        room = self.all_done()
        self.assertEqual(room.undo(3), ELEVEN[:7:-1])
        self.assertEqual((room.deeds(), room.waiting()), (ELEVEN[:8], ELEVEN[8:]))
        self.assertEqual(room.undo(times=2), ELEVEN[7:5:-1])
        self.assertEqual((room.deeds(), room.waiting()), (ELEVEN[:6], ELEVEN[6:]))
        self.assertEqual(room.redo(times=3), ELEVEN[6:9])
        self.assertEqual((room.deeds(), room.waiting()), (ELEVEN[:9], ELEVEN[9:]))
        self.assertEqual(room.redo(2), ELEVEN[9:])
        self.assertEqual((room.deeds(), room.waiting()), (ELEVEN, []))

    def test_all(self):
        room = self.all_done()
        self.assertEqual(room.undo(11), ELEVEN[::-1])
        self.assertEqual(seen(room), (0, [], [], [], [], [], ELEVEN))
        self.assertEqual(room.redo(11), ELEVEN)
        self.assertEqual((room.deeds(), room.waiting()), (ELEVEN, []))

    def test_all_is_as_it_was(self):
        room = Room()
        shows = [shown(room)]
        for deed in ELEVEN:
            room.do(deed)
            shows.append(shown(room))
        for many in range(10, -1, -1):
            room.undo()
            self.assertEqual(shown(room), shows[many])
        for many in range(1, 12):
            room.redo()
            self.assertEqual(shown(room), shows[many])
        for back, again in itertools.product(range(1, 12), repeat=2):
            if again <= back:
                room.undo(back)
                self.assertEqual(shown(room), shows[11 - back])
                room.redo(again)
                self.assertEqual(shown(room), shows[11 - back + again])
                if again < back:
                    room.redo(back - again)

    def test_nothing_left(self):
        room = self.all_done()
        room.undo(4)
        before = seen(room)
        for ask, many in ((room.undo, 7), (room.redo, 4)):
            for times in (0, -1, -many, many + 1, many + 2, FAR, -FAR):
                with self.assertRaises(NothingLeft):
                    ask(times)
                with self.assertRaises(NothingLeft):
                    ask(times=times)
                self.assertEqual(seen(room), before)

    def test_nothing_left_of_a_new_room(self):
        room = Room()
        for ask in (room.undo, room.redo):
            for times in (1, 0, -1):
                with self.assertRaises(NothingLeft):
                    ask(times)
            with self.assertRaises(NothingLeft):
                ask()
        room.cut("ox", 1)
        with self.assertRaises(NothingLeft):
            room.redo()
        room.undo()
        with self.assertRaises(NothingLeft):
            room.undo()

    def test_another_deed_lets_go_what_waits(self):
        room = self.all_done()
        room.undo(5)
        room.burn("ox")
        self.assertEqual((room.deeds(), room.waiting()), (ELEVEN[:6] + [("burn", "ox")], []))
        with self.assertRaises(NothingLeft):
            room.redo()
        room.undo(2)
        self.assertEqual(room.waiting(), [ELEVEN[5], ("burn", "ox")])
        room.redo(2)
        self.assertEqual(room.names(), [])

    def test_the_same_deed_lets_go_what_waits_too(self):
        room = self.all_done()
        room.undo(5)
        room.do(ELEVEN[6])
        self.assertEqual((room.deeds(), room.waiting()), (ELEVEN[:7], []))

    def test_a_refused_one_does_not(self):
        room = self.all_done()
        room.undo(5)
        before = seen(room)
        self.refused(room, NoCard, ("burn", "cow"), "cow")
        self.refused(room, BadSize, ("cut", "cow", 9, 9, 9))
        self.assertEqual(seen(room), before)
        self.assertEqual(room.redo(5), ELEVEN[6:])

    def test_burn_drop_beside_and_part(self):
        cases = [("burn", "ox"), ("drop", "plan"), ("beside", "ox", "cow"), ("beside", "cow", "ox"),
                 ("part", "ox", 1, "pig")]
        for deed in cases:
            room = room_of(ox="wfwf/wwff", cow="ffww")
            room.slit("ox", 1, 0)
            room.slit("ox", 2, 3)
            room.keep("plan", "ox")
            before = shown(room)
            room.do(deed)
            behind = shown(room)
            self.assertNotEqual(behind, before)
            for turn in range(2):
                self.assertEqual(room.undo(), [deed])
                self.assertEqual(shown(room), before)
                self.assertEqual(room.redo(), [deed])
                self.assertEqual(shown(room), behind)

    def test_told_lists_are_new_ones(self):
        room = self.all_done()
        room.undo(3)
        before = seen(room)
        for ask in (room.deeds, room.waiting, lambda: room.undo(2), lambda: room.redo(2)):
            ask().clear()
        self.assertEqual(seen(room), before)


class Twins(RoomTest):
    def test_it_has_all(self):
        room, shows = grown_room(40)
        room.undo(7)
        twin = room.twin()
        self.assertIsInstance(twin, Room)
        self.assertIsNot(twin, room)
        self.assertEqual(seen(twin), seen(room))
        self.assertEqual(twin.redo(7), room.redo(7))
        self.assertEqual(seen(twin), seen(room))
        self.assertEqual(twin.undo(40), room.undo(40))
        self.assertEqual(seen(twin), seen(room))

    def test_each_goes_its_own_way(self):
        room, shows = grown_room(30)
        room.undo(5)
        for act in (lambda told: told.undo(3), lambda told: told.redo(2), lambda told: told.cut("fresh", 1)):
            for changed_first in (True, False):
                one = room.twin()
                other = one.twin()
                before = seen(one)
                act(one if changed_first else other)
                self.assertEqual(seen(other if changed_first else one), before)
                self.assertNotEqual(seen(one), seen(other))

    def test_what_can_be_done_again_stays_its_own(self):
        room = room_of(ox="wf")
        room.cut("cow", 1)
        room.undo()
        twin = room.twin()
        twin.cut("pig", 1)
        self.assertEqual((twin.waiting(), room.waiting()), ([], [("cut", "cow", 1, 1, 1)]))
        room.redo()
        self.assertEqual((room.names(), twin.names()), (["cow", "ox"], ["ox", "pig"]))
        self.assertEqual(twin.undo(2)[1], ("cut", "ox", 1, 1, 1))
        self.assertEqual(room.names(), ["cow", "ox"])

    def test_twins_of_twins(self):
        room = room_of(ox="wwff")
        rooms = [room]
        for name in ("a", "b", "c"):
            rooms.append(rooms[-1].twin())
            rooms[-1].cut(name, 1)
        self.assertEqual([told.names() for told in rooms], [["ox"], ["a", "ox"], ["a", "b", "ox"],
                                                            ["a", "b", "c", "ox"]])
        for told in rooms:
            told.undo(len(told.deeds()))
            self.assertEqual(told.names(), [])
        for told in rooms[::-1]:
            told.redo(len(told.waiting()))
        self.assertEqual([len(told) for told in rooms], [1, 2, 3, 4])

    def test_dropping_and_burning(self):
        room = room_of(ox="wf")
        room.keep("plan", "ox")
        twin = room.twin()
        twin.drop("plan")
        twin.burn("ox")
        self.assertEqual((room.names(), room.plans()), (["ox"], ["plan"]))
        self.assertEqual((twin.names(), twin.plans()), ([], []))

    def test_of_a_new_room(self):
        self.assertEqual(seen(Room().twin()), seen(Room()))


class ManyDeeds(RoomTest):
    def test_three_hundred(self):
        room, shows = grown_room(300)
        self.assertEqual((len(room.deeds()), len(shows)), (300, 301))
        deeds = room.deeds()
        for many in (1, 2, 10, 100, 187):
            self.assertEqual(room.undo(many), room.waiting()[:many][::-1])
            self.assertEqual(shown(room), shows[len(room.deeds())])
        self.assertEqual((room.deeds(), room.waiting()), ([], deeds))
        self.assertEqual(room.redo(300), deeds)
        self.assertEqual(shown(room), shows[300])
        self.assertEqual(room.undo(300), deeds[::-1])
        self.assertEqual(shown(room), shows[0])
        for many in range(1, 301):
            room.redo()
            self.assertEqual(shown(room), shows[many])

    def test_somewhat_beyond(self):
        room = room_of(ox="wf")
        for turn in range(320):
            room.mirror("ox")
        self.assertEqual(len(room.deeds()), 321)

    def test_to_and_fro(self):
        for number in range(2, 8):
            chance = random.Random(number)
            room, shows = grown_room(60, number)
            deeds = room.deeds()
            for turn in range(60):
                back = chance.randint(0, len(room.deeds()))
                if back:
                    room.undo(back)
                again = chance.randint(0, len(room.waiting()))
                if again:
                    room.redo(again)
                many = len(room.deeds())
                self.assertEqual(shown(room), shows[many])
                self.assertEqual((room.deeds(), room.waiting()), (deeds[:many], deeds[many:]))

    def test_each_kind_of_deed_is_among_them(self):
        room, shows = grown_room(300)
        self.assertEqual({deed[0] for deed in room.deeds()}, {deed[0] for deed in ELEVEN})


class Questions(RoomTest):
    def test_names_and_plans_are_rising(self):
        room = Room()
        self.assertEqual((room.names(), room.plans()), ([], []))
        for name in ("pig", "ox", "a", "oxen", "cow"):
            room.cut(name, 1)
            room.keep(name, name)
        self.assertEqual(room.names(), ["a", "cow", "ox", "oxen", "pig"])
        self.assertEqual(room.plans(), ["a", "cow", "ox", "oxen", "pig"])

    def test_card_and_plan(self):
        room = room_of(ox="wfwf/wwff")
        room.keep("plan", "ox")
        self.assertEqual(room.card("ox"), Card(["wfwf", "wwff"]))
        self.assertEqual(room.card(name="ox"), room.card("ox"))
        self.assertEqual(room.plan("plan"), drawing(room.card("ox")))
        self.assertEqual(room.plan(plan="plan"), room.plan("plan"))
        for ask, name, error in ((room.card, "cow", NoCard), (room.card, "plan", NoCard), (room.card, "", NoCard),
                                 (room.plan, "no", NoPlan), (room.plan, "ox", NoPlan), (room.plan, "", NoPlan)):
            with self.assertRaises(error) as caught:
                ask(name)
            self.assertEqual(caught.exception.name, name)

    def test_spoilt(self):
        room = room_of(ox="wwff/wwff")
        room.keep("plan", "ox")
        self.assertIsNone(room.spoilt("plan", "ox"))
        room.slit("ox", 1, 3)
        self.assertEqual(room.spoilt("plan", "ox"), 8)
        room.slit("ox", 1, 0)
        self.assertEqual(room.spoilt("plan", "ox"), 2)
        room.glue("ox", 1)
        self.assertIsNone(room.spoilt(name="ox", plan="plan"))
        room.push("ox", 1, 2)
        self.assertEqual(room.spoilt("plan", "ox"), 3)

    def test_spoilt_by_rows(self):
        room = Room()
        cards = [["wf"], ["fw"], ["wf", "wf"], ["wff"], ["wwf"], ["wwff"], ["wfwf"], ["ffww"], ["wwfff"], ["wwwff"]]
        for name, stairs in zip("abcdefghij", cards):
            room.cut(name, stairs[0].count("w"), stairs[0].count("f"), len(stairs))
            lead(room, name, 0, stairs[0])
        for name, plan in zip("abcdefgh", "pqrstuvw"):
            room.keep(plan, name)
        for plan, name in itertools.product(room.plans(), room.names()):
            kept, rows = room.plan(plan), drawing(room.card(name))
            differing = [at for at, (a, b) in enumerate(itertools.zip_longest(kept, rows)) if a != b]
            self.assertEqual(room.spoilt(plan, name), differing[0] if differing else None)
        self.assertEqual(room.spoilt("p", "d"), 0)
        self.assertEqual(room.spoilt("p", "c"), 1)

    def test_spoilt_refused(self):
        room = room_of(ox="wf")
        room.keep("plan", "ox")
        for plan, name, error, lacking in (
            ("no", "nor", NoPlan, "no"), ("no", "ox", NoPlan, "no"), ("plan", "nor", NoCard, "nor"),
            ("ox", "ox", NoPlan, "ox"),
        ):
            with self.assertRaises(error) as caught:
                room.spoilt(plan, name)
            self.assertEqual(caught.exception.name, lacking)

    def test_alike(self):
        room = room_of(ox="wwff/wwff", cow="wwff", pig="wwff/wwff", bee="wwff/wwff")
        room.keep("plan", "ox")
        self.assertEqual(room.alike("plan"), ["bee", "ox", "pig"])
        room.slit("pig", 1, 0)
        room.keep("other", "pig")
        self.assertEqual((room.alike("plan"), room.alike(plan="other")), (["bee", "ox"], ["pig"]))
        room.glue("pig", 1)
        self.assertEqual((room.alike("plan"), room.alike("other")), (["bee", "ox", "pig"], []))
        with self.assertRaises(NoPlan) as caught:
            room.alike("ox")
        self.assertEqual(caught.exception.name, "ox")

    def test_length(self):
        room = Room()
        self.assertEqual((len(room), bool(room)), (0, False))
        room.cut("ox", 1, 1, 8)
        self.assertEqual((len(room), bool(room)), (1, True))
        room.cut("cow", 1)
        room.keep("plan", "ox")
        self.assertEqual(len(room), 2)
        room.undo(3)
        self.assertEqual((len(room), bool(room)), (0, False))

    def test_told_lists_are_new_ones(self):
        room, shows = grown_room(60)
        while not (room.plans() and room.names()):
            room.undo()
        plan = room.plans()[0]
        before = seen(room)
        for ask in (room.names, room.plans, room.deeds, room.waiting, lambda: room.plan(plan), lambda: room.alike(plan),
                    lambda: room.card(room.names()[0]).stairs()):
            told = repr(ask())
            ask().append(99)
            ask().clear()
            self.assertEqual(repr(ask()), told)
        self.assertEqual(seen(room), before)

    def test_dropped_rows_are_a_new_list(self):
        room = room_of(ox="wf")
        room.keep("plan", "ox")
        room.drop("plan").clear()
        room.undo()
        self.assertEqual(room.plan("plan"), drawing(Card(["wf"])))

    def test_questions_change_nothing(self):
        room, shows = grown_room(60)
        room.undo(3)
        before = seen(room)
        for plan, name in itertools.product(room.plans() or ["no"], room.names() or ["no"]):
            for ask in (lambda: room.spoilt(plan, name), lambda: room.alike(plan), lambda: len(room), room.twin):
                try:
                    ask()
                except RoomError:
                    pass
                self.assertEqual(seen(room), before)


class Interface(unittest.TestCase):
    def test_names_of_arguments(self):
        names = {
            "cut": "(self, name, height, depth=None, columns=1)", "push": "(self, name, column, corner)",
            "slit": "(self, name, edge, at)", "glue": "(self, name, edge, at=None)", "mirror": "(self, name)",
            "turn": "(self, name)", "beside": "(self, name, other)", "part": "(self, name, at, fresh)",
            "burn": "(self, name)", "keep": "(self, plan, name)", "drop": "(self, plan)", "do": "(self, deed)",
            "undo": "(self, times=1)", "redo": "(self, times=1)", "deeds": "(self)", "waiting": "(self)",
            "twin": "(self)", "names": "(self)", "plans": "(self)", "card": "(self, name)", "plan": "(self, plan)",
            "spoilt": "(self, plan, name)", "alike": "(self, plan)", "__len__": "(self)", "__init__": "(self)",
        }
        for name, expected in names.items():
            self.assertIn(name, vars(Room))
            self.assertEqual(str(inspect.signature(vars(Room)[name])), expected)

    def test_keywords(self):
        room = Room()
        room.do(deed=("cut", "ox", 2, 2, 1))
        room.slit(name="ox", edge=0, at=0)
        room.glue(name="ox", edge=0, at=0)
        room.mirror(name="ox")
        room.turn(name="ox")
        self.assertEqual(len(room.deeds()), 5)

    def test_cards_of_plain_stairs(self):
        room = Room()
        for height, depth in itertools.product(range(1, 9), repeat=2):
            room.cut("ox", height, depth, 3)
            self.assertEqual(room.burn("ox"), Card([plain(height, depth)] * 3))


if __name__ == "__main__":
    unittest.main()
