import inspect
import random
import unittest

from rooms import ELEVEN, LINES, NAMELESS, grown_room, room_of, seen, some_deed
from upleaf.desk import Desk
from upleaf.errors import RoomError
from upleaf.motion import freedom, loose_patches
from upleaf.notes import deed_line, written
from upleaf.pushes import apart
from upleaf.room import Room
from upleaf.sheet import drawing
from upleaf.views import front

# Lines of each kind, with words that are names.
GOOD_LINES = [
    *LINES, "glue ox 1 0", "undo", "redo", "names", "names plan", "card ox", "stiff ox", "loose ox", "front ox",
    "apart ox cow", "draw ox", "spoilt plan ox",
]


class DeskTest(unittest.TestCase):
    def says(self, desk, line, answer):
        told = desk.say(line)
        self.assertIsInstance(told, str)
        self.assertEqual(told, answer, line)

    def unchanged(self, desk, line, answer):
        before = seen(desk.room())
        self.says(desk, line, answer)
        self.assertEqual(seen(desk.room()), before)


class Rooms(DeskTest):
    def test_of_a_handed_room(self):
        room = room_of(ox="wf")
        desk = Desk(room)
        self.assertIs(desk.room(), room)
        self.says(desk, "names", "ox")

    def test_of_a_handed_room_without_cards(self):
        room = Room()
        desk = Desk(room)
        self.assertIs(desk.room(), room)
        self.says(desk, "cut ox 1 1 1", "done")
        self.assertEqual(room.names(), ["ox"])
        self.assertIs(Desk(room=Room()).room() is room, False)

    def test_of_its_own(self):
        for desk in (Desk(), Desk(None), Desk(room=None)):
            self.assertIsInstance(desk.room(), Room)
            self.assertEqual(seen(desk.room()), seen(Room()))
            self.assertIs(desk.room(), desk.room())
            self.says(desk, "cut ox 1 1 1", "done")
            self.assertEqual(desk.room().names(), ["ox"])
        self.assertIsNot(Desk().room(), Desk().room())

    def test_two_desks_of_one_room(self):
        room = Room()
        one, other = Desk(room), Desk(room)
        self.says(one, "cut ox 2 2 2", "done")
        self.says(other, "push ox 0 2", "done")
        self.says(one, "card ox", "wfwf/wwff")
        self.says(one, "undo", "push ox 0 2")
        self.says(other, "card ox", "wwff/wwff")
        self.says(other, "redo", "push ox 0 2")
        self.says(other, "cut ox 1 1 1", "taken ox")

    def test_deeds_by_hand_between_two_lines(self):
        desk = Desk()
        self.says(desk, "names", "-")
        desk.room().cut("ox", 2)
        self.says(desk, "names", "ox")
        desk.room().undo()
        self.says(desk, "names", "-")
        self.says(desk, "redo", "cut ox 2 2 1")
        desk.room().slit("ox", 0, 0)
        desk.room().glue("ox", 0)
        self.says(desk, "undo", "glue ox 0 -")
        self.says(desk, "card ox", "wwff 0.0")


class Deeds(DeskTest):
    def test_all_eleven(self):
        desk = Desk()
        room = Room()
        for deed, line in zip(ELEVEN, LINES, strict=True):
            expected = "done"
            if deed[0] == "burn":
                expected = str(room.card(deed[1]))
            if deed[0] == "drop":
                expected = "/".join(room.plan(deed[1]))
            self.says(desk, line, expected)
            room.do(deed)
            self.assertEqual(seen(desk.room()), seen(room))

    def test_burn_and_drop(self):
        desk = Desk(room_of(ox="wfwf/wwff"))
        self.says(desk, "slit ox 1 0", "done")
        self.says(desk, "keep plan ox", "done")
        self.says(desk, "burn ox", "wfwf/wwff 1.0")
        self.says(desk, "drop plan", "2 2/--/.|./v-/||./^v/||./v-/.../--")
        self.says(desk, "names", "-")
        self.says(desk, "names plan", "no drawing plan")

    def test_glue_of_one_and_of_all(self):
        desk = Desk(room_of(ox="wwff"))
        for line in ("slit ox 0 0", "slit ox 0 1", "slit ox 0 2", "glue ox 0 1"):
            self.says(desk, line, "done")
        self.says(desk, "card ox", "wwff 0.0 0.2")
        self.says(desk, "glue ox 0 -", "done")
        self.says(desk, "card ox", "wwff")
        self.unchanged(desk, "glue ox 0 -", "refused")

    def test_undo_and_redo(self):
        desk = Desk()
        self.says(desk, "undo", "refused")
        self.says(desk, "redo", "refused")
        for line in LINES:
            desk.say(line)
        self.says(desk, "redo", "refused")
        for line in LINES[::-1]:
            self.says(desk, "undo", line)
        self.says(desk, "undo", "refused")
        for line in LINES:
            self.says(desk, "redo", line)
        self.unchanged(desk, "redo", "refused")

    def test_as_a_room_does(self):
        for number in range(4):
            chance = random.Random(number)
            desk, room = Desk(), Room()
            for turn in range(150):
                deed = some_deed(chance, room)
                if any(" " in str(part) for part in deed):
                    self.unchanged(desk, deed_line(deed), "what")
                    continue
                try:
                    told = room.do(deed)
                except (ValueError, RoomError):
                    self.assertRegex(desk.say(deed_line(deed)), r"\A(refused|no card \S+|no drawing \S+|taken \S+)\Z")
                else:
                    expected = "done" if told is None else "/".join(told) if deed[0] == "drop" else str(told)
                    self.says(desk, deed_line(deed), expected)
                self.assertEqual(seen(desk.room()), seen(room))


class Questions(DeskTest):
    def setUp(self):
        self.desk = Desk(room_of(ox="fwfww/fwwfw", cow="wwwff/wwwff", pig="fwwfw/fwfww"))

    def test_names(self):
        self.says(self.desk, "names", "cow ox pig")
        self.says(Desk(), "names", "-")

    def test_names_of_a_plan(self):
        self.says(self.desk, "keep plan ox", "done")
        self.unchanged(self.desk, "names plan", "ox")
        self.says(self.desk, "mirror pig", "done")
        self.unchanged(self.desk, "names plan", "ox pig")
        self.says(self.desk, "burn ox", "fwfww/fwwfw")
        self.says(self.desk, "turn pig", "done")
        self.unchanged(self.desk, "names plan", "-")
        self.unchanged(self.desk, "names ox", "no drawing ox")

    def test_card(self):
        self.unchanged(self.desk, "card ox", "fwfww/fwwfw")
        self.says(self.desk, "slit ox 1 4", "done")
        self.unchanged(self.desk, "card ox", "fwfww/fwwfw 1.4")

    def test_stiff_tells_the_freedom(self):
        self.unchanged(self.desk, "stiff ox", "1")
        self.unchanged(self.desk, "stiff cow", "0")

    def test_loose(self):
        self.unchanged(self.desk, "loose ox", "2 4 6")
        self.unchanged(self.desk, "loose cow", "-")

    def test_front(self):
        self.unchanged(self.desk, "front ox", "1 1/2 1/2 2")
        self.unchanged(self.desk, "front cow", "0 0/0 0/0 0")
        self.unchanged(Desk(room_of(ox="wfwf")), "front ox", "0/1")

    def test_apart(self):
        self.unchanged(self.desk, "apart ox cow", "9")
        self.unchanged(self.desk, "apart ox pig", "2")
        self.unchanged(self.desk, "apart ox ox", "0")
        self.desk.room().cut("bee", 3, 2)
        self.unchanged(self.desk, "apart ox bee", "refused")

    def test_draw(self):
        self.unchanged(self.desk, "draw cow", "3 2/--/.../--/.../--/.../vv/.../--/.../--")
        self.unchanged(Desk(room_of(ox="wfwf/wwff")), "draw ox", "2 2/--/.../v-/||./^v/||./v-/.../--")

    def test_spoilt(self):
        self.says(self.desk, "keep plan ox", "done")
        self.unchanged(self.desk, "spoilt plan ox", "good")
        self.unchanged(self.desk, "spoilt plan cow", "1")
        self.desk.room().cut("bee", 1)
        self.unchanged(self.desk, "spoilt plan bee", "0")
        self.says(self.desk, "slit ox 1 0", "done")
        self.unchanged(self.desk, "spoilt plan ox", "2")

    def test_by_the_functions(self):
        for number in range(1, 6):
            room, shows = grown_room(80, number)
            while len(room) < 2 or not room.plans():
                room.undo()
            desk = Desk(room)
            before = seen(room)
            for name in room.names():
                card = room.card(name)
                self.says(desk, f"card {name}", str(card))
                self.says(desk, f"stiff {name}", str(freedom(card)))
                self.says(desk, f"loose {name}", " ".join(map(str, loose_patches(card))) or "-")
                self.says(desk, f"front {name}", "/".join(" ".join(map(str, row)) for row in front(card)))
                self.says(desk, f"draw {name}", "/".join(drawing(card)))
                for other in room.names():
                    beside = room.card(other)
                    like = (len(card), card.height(), card.depth()) == (len(beside), beside.height(), beside.depth())
                    self.says(desk, f"apart {name} {other}", str(apart(card, beside)) if like else "refused")
                for plan in room.plans():
                    row = room.spoilt(plan, name)
                    self.says(desk, f"spoilt {plan} {name}", "good" if row is None else str(row))
            for plan in room.plans():
                self.says(desk, f"names {plan}", " ".join(room.alike(plan)) or "-")
            self.says(desk, "names", " ".join(room.names()))
            self.assertEqual(seen(room), before)


class Refusals(DeskTest):
    def setUp(self):
        self.desk = Desk(room_of(ox="wwff/wwff", cow="wwff"))
        self.desk.say("keep plan ox")

    def test_no_card(self):
        for line in ("card no", "stiff no", "loose no", "front no", "draw no", "burn no", "mirror no", "turn no",
                     "push no 0 0", "slit no 0 0", "glue no 0 -", "part no 1 nor", "beside no nor", "beside no ox",
                     "apart no nor",
                     "apart no ox", "apart ox no", "beside ox no", "keep plan no", "keep BAD no", "spoilt plan no"):
            self.unchanged(self.desk, line, "no card no")

    def test_no_drawing(self):
        for line in ("drop no", "names no", "spoilt no ox", "spoilt no nor"):
            self.unchanged(self.desk, line, "no drawing no")

    def test_taken(self):
        self.unchanged(self.desk, "cut ox 1 1 1", "taken ox")
        self.unchanged(self.desk, "part ox 1 cow", "taken cow")
        self.unchanged(self.desk, "part ox 1 ox", "taken ox")
        self.unchanged(self.desk, "keep plan cow", "taken plan")

    def test_refused(self):
        for line in ("cut pig 9 1 1", "cut pig 0 1 1", "cut pig 1 1 99", "cut ox 9 1 1", "cut Pig 1 1 1",
                     "cut abcdefghi 1 1 1", "cut - 1 1 1",
                     "push ox 2 2", "push ox 0 1", "slit ox 3 0", "slit ox 0 9", "glue ox 0 -", "glue ox 9 -",
                     "beside ox ox",
                     "part ox 2 pig", "part ox 1 PIG", "keep PLAN ox"):
            self.unchanged(self.desk, line, "refused")
        self.desk.room().cut("bee", 1)
        self.unchanged(self.desk, "beside ox bee", "refused")
        self.unchanged(self.desk, "apart ox bee", "refused")
        self.unchanged(self.desk, "apart ox cow", "refused")

    def test_full(self):
        for name in "abcdefghij":
            self.says(self.desk, f"cut {name} 1 1 2", "done")
        self.unchanged(self.desk, "cut k 1 1 1", "refused")
        self.unchanged(self.desk, "part a 1 k", "refused")
        self.unchanged(self.desk, "part a 1 b", "taken b")
        for plan in "abcdefg":
            self.says(self.desk, f"keep {plan} ox", "done")
        self.unchanged(self.desk, "keep h ox", "refused")

    def test_names_of_any_signs(self):
        for name in ("-", "OX", "1", "o/x", "~", "a" * 100, "o.x"):
            self.unchanged(self.desk, f"card {name}", f"no card {name}")
            self.unchanged(self.desk, f"burn {name}", f"no card {name}")
            self.unchanged(self.desk, f"drop {name}", f"no drawing {name}")
            self.unchanged(self.desk, f"cut {name} 1 1 1", "refused")


class What(DeskTest):
    def setUp(self):
        self.desk = Desk(room_of(ox="wwff/wwff", cow="wwff"))
        self.desk.say("keep plan ox")
        self.desk.say("mirror ox")
        self.desk.say("undo")

    def test_blanks(self):
        for line in GOOD_LINES:
            self.unchanged(self.desk, " " + line, "what")
            self.unchanged(self.desk, line + " ", "what")
            for at, sign in enumerate(line):
                if sign == " ":
                    self.unchanged(self.desk, line[:at] + " " + line[at:], "what")

    def test_no_name_is_empty(self):
        for line in (*NAMELESS, "names ", "card ", "stiff ", "loose ", "front ", "draw ", "apart ox ", "apart  ox",
                     "spoilt plan ",
                     "spoilt  ox", "undo ", "redo "):
            self.unchanged(self.desk, line, "what")

    def test_the_empty_line(self):
        for line in ("", " ", "  "):
            self.unchanged(self.desk, line, "what")

    def test_a_word_more(self):
        for line in GOOD_LINES:
            if line != "names":
                for word in ("ox", "1", "-"):
                    self.unchanged(self.desk, f"{line} {word}", "what")
        self.unchanged(self.desk, "names plan ox", "what")

    def test_a_word_less(self):
        for line in GOOD_LINES:
            if line != "names plan":
                self.unchanged(self.desk, line.rpartition(" ")[0], "what")

    def test_great_letters(self):
        for line in GOOD_LINES:
            word, blank, rest = line.partition(" ")
            self.unchanged(self.desk, word.upper() + blank + rest, "what")
            self.unchanged(self.desk, word.title() + blank + rest, "what")

    def test_other_words(self):
        for line in ("hello", "what", "ox", "deeds", "waiting", "twin", "plans", "plan plan", "alike plan", "tidy",
                     "cuts ox 1 1 1", "patches ox",
                     "undo 1", "redo 1", "undo 2", "-", "good", "done", "held ox 0", "above ox", "way ox cow", "do",
                     "room"):
            self.unchanged(self.desk, line, "what")

    def test_numbers(self):
        for word in ("100", "01", "00", "-1", "+1", "a", "1.0", "-"):
            for line in (f"cut pig {word} 1 1", f"cut pig 1 {word} 1", f"cut pig 1 1 {word}", f"push ox {word} 2",
                         f"push ox 0 {word}",
                         f"slit ox {word} 0", f"slit ox 0 {word}", f"glue ox {word} 0", f"part ox {word} pig"):
                self.unchanged(self.desk, line, "what")
        self.unchanged(self.desk, "glue ox 1 01", "what")

    def test_how_it_is_written_goes_first(self):
        for line in ("cut ox 01 1 1", "cut ox 1 1 100", "burn no no", "card no ", "card  no", "apart no nor nay",
                     "keep plan no 1", "part no x ox",
                     "push no 0", "spoilt no", "names no no", "drop no no", "slit no 0 -", "card"):
            self.unchanged(self.desk, line, "what")

    def test_a_deed_that_waits_still_waits(self):
        self.unchanged(self.desk, "what", "what")
        self.says(self.desk, "redo", "mirror ox")


class Told(unittest.TestCase):
    def test_names_of_arguments(self):
        for name, expected in {"__init__": "(self, room=None)", "room": "(self)", "say": "(self, line)"}.items():
            self.assertIn(name, vars(Desk))
            self.assertEqual(str(inspect.signature(vars(Desk)[name])), expected)
        self.assertEqual(Desk(room=Room()).say(line="names"), "-")

    def test_the_same_asked_again(self):
        desk = Desk(grown_room(40)[0])
        text = written(desk.room())
        for line in ("names", "card a", "stiff a", "loose a", "front a", "draw a", "names p", "spoilt p a",
                     "apart a b"):
            self.assertEqual(desk.say(line), desk.say(line))
        self.assertEqual(written(desk.room()), text)


if __name__ == "__main__":
    unittest.main()
