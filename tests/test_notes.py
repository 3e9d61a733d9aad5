import inspect
import random
import unittest

from rooms import ELEVEN, LINES, NAMELESS, grown_room, seen
from samples import great_cards, mixed_cards, some_cards
from upleaf import notes
from upleaf.cards import Card
from upleaf.errors import BadText
from upleaf.notes import deed_line, read_card, read_deed, read_room, tidy, written
from upleaf.room import Room


class Refusing(unittest.TestCase):
    def refused(self, ask, text, row=0):
        with self.assertRaises(BadText) as caught:
            ask(text)
        self.assertEqual((type(caught.exception), caught.exception.row), (BadText, row), text)


class ReadCard(Refusing):
    def test_read_card(self):
        self.assertEqual(read_card("wfwf/wwff 1.0"), Card(["wfwf", "wwff"], [(1, 0)]))
        self.assertEqual(read_card("wf"), Card(["wf"]))
        self.assertEqual(read_card("wf 0.0 0.1 1.0 1.1"), Card(["wf"], [(0, 0), (0, 1), (1, 0), (1, 1)]))

    def test_every_text_that_is_told(self):
        for cards in (some_cards(), mixed_cards(150), great_cards()):
            for card in cards:
                told = read_card(str(card))
                self.assertEqual(told, card)
                self.assertEqual(str(told), str(card))

    def test_numbers_of_two_figures(self):
        card = Card(["fw" * 8] * 8, [(4, 9), (4, 10), (4, 15)])
        self.assertEqual(read_card("/".join(["fw" * 8] * 8) + " 4.9 4.10 4.15"), card)
        self.refused(read_card, "/".join(["fw" * 8] * 8) + " 4.10 4.9")

    def test_other_signs(self):
        for text in ("", " ", "\n", "w", "f", "wx", "WF", "wf\n", "\nwf", "wf,wf", "wf|wf", "wf-", "-", "wf 0",
                     "wf 0,0",
                     "wf 0.", "wf .0", "wf .", "wf a.b", "wf 0.0.0", "wf 0.0/wf", "wf 0.-0", "wf -0.0", "wf +0.0",
                     "wf 0.0\n",
                     "wf (0, 0)", "Card(['wf'], [])", "wf 0:0", "wf 0. 0", "wf 0 .0", "wf\n0.0", "wf 1_.0", "wf wf"):
            self.refused(read_card, text)

    def test_slits(self):
        self.assertEqual(read_card("wwff 0.0 0.1 1.3").slits(), [(0, 0), (0, 1), (1, 3)])
        for slits in ("0.0 0.0", "0.1 0.0", "1.0 0.0", "0.0 0.1 0.0", "2.0", "0.4", "99.0", "0.99", "-1.0", "0.-1",
                      "100.0",
                      "0.100", "9999999999.0", "1.3 0.0"):
            self.refused(read_card, "wwff " + slits)
        self.refused(read_card, "wwff/wfwf 1.1")
        self.refused(read_card, "wfwf 0.1")

    def test_needless_noughts(self):
        for slit in ("00.0", "0.00", "01.0", "1.00", "0.01", "1.03", "000.0"):
            self.refused(read_card, "wwff " + slit)

    def test_blanks(self):
        for text in ("wwff  0.0", " wwff", "wwff ", "wwff 0.0 ", " wwff 0.0", "wwff 0.0  0.1", "ww ff", "wwff/ wwff",
                     "wwff /wwff"):
            self.refused(read_card, text)

    def test_stairs(self):
        for text in ("wf/wwf", "wf/wff", "wwf/wff", "wf/", "/wf", "/", "wf//wf", "/".join(["wf"] * 9), "w" * 9 + "f",
                     "w" + "f" * 9,
                     "wf/fw/w", "/".join(["wf"] * 200), "wf" * 9000):
            self.refused(read_card, text)
        self.assertEqual(len(read_card("/".join(["wf"] * 8))), 8)

    def test_a_change_of_one_sign_makes_no_text_of_the_same_card(self):
        text = "wfwf/wwff 1.0 2.3"
        for at in range(len(text) + 1):
            for sign in ("", "w", "f", "/", " ", ".", "0", "1"):
                for changed in (text[:at] + sign + text[at:], text[:at] + sign + text[at + 1:]):
                    try:
                        told = str(read_card(changed))
                    except BadText as error:
                        self.assertEqual(error.row, 0)
                        continue
                    self.assertEqual(told, changed)


class Deeds(Refusing):
    def test_all_eleven(self):
        for deed, line in zip(ELEVEN, LINES, strict=True):
            self.assertEqual(deed_line(deed), line)
            told = read_deed(line)
            self.assertEqual(told, deed)
            self.assertIsInstance(told, tuple)

    def test_glue(self):
        self.assertEqual(read_deed("glue ox 1 0"), ("glue", "ox", 1, 0))
        self.assertEqual(read_deed("glue ox 1 -"), ("glue", "ox", 1, None))
        self.assertEqual(deed_line(("glue", "ox", 1, 0)), "glue ox 1 0")
        self.refused(read_deed, "glue ox - -")
        self.refused(read_deed, "glue ox - 1")
        self.refused(read_deed, "glue ox 1 --")

    def test_none_is_for_glue_alone(self):
        for line in ("cut ox 2 2 -", "cut ox 2 - 1", "cut ox - 2 1", "push ox 0 -", "push ox - 0", "slit ox 1 -",
                     "part ox - cow"):
            self.refused(read_deed, line)

    def test_names_are_any_words(self):
        for name in ("-", "1", "12", "A", "~", "o.x", "abcdefghijk", "cut", "ox/cow", "'", '"', "\\", "a" * 500, "01"):
            for deed in (("burn", name), ("drop", name), ("mirror", name), ("cut", name, 1, 2, 3),
                         ("glue", name, 0, None),
                         ("beside", name, name), ("keep", name, name), ("part", name, 1, name)):
                line = deed_line(deed)
                self.assertEqual(line, " ".join("-" if part is None else str(part) for part in deed))
                self.assertEqual(read_deed(line), deed)

    def test_numbers(self):
        for number in range(100):
            self.assertEqual(read_deed(f"slit ox {number} {99 - number}"), ("slit", "ox", number, 99 - number))
            self.assertEqual(read_deed(f"part ox {number} cow"), ("part", "ox", number, "cow"))
        for word in ("100", "999", "010", "00", "01", "09", "000", "+1", "-1", "-0", "+0", "1.", "1.0", "0x1", "1_0",
                     "a", "1a", "a1", "", "--",
                     "9" * 40, "one", "\n", "1\n", "\n1"):
            for line in (f"cut ox {word} 1 1", f"cut ox 1 {word} 1", f"cut ox 1 1 {word}", f"push ox {word} 1",
                         f"push ox 1 {word}", f"slit ox {word} 1", f"slit ox 1 {word}", f"glue ox {word} 1",
                         f"glue ox 1 {word}", f"part ox {word} cow"):
                self.refused(read_deed, line)

    def test_numbers_need_not_fit_a_card(self):
        self.assertEqual(read_deed("cut ox 0 99 50"), ("cut", "ox", 0, 99, 50))
        self.assertEqual(read_deed("push ox 99 0"), ("push", "ox", 99, 0))

    def test_a_word_more_and_a_word_less(self):
        for line in LINES:
            self.refused(read_deed, line.rpartition(" ")[0])
            self.refused(read_deed, line + " 1")
            self.refused(read_deed, line + " ox")
            self.refused(read_deed, line + " -")

    def test_blanks(self):
        for line in LINES:
            self.refused(read_deed, " " + line)
            self.refused(read_deed, line + " ")
            for at, sign in enumerate(line):
                if sign == " ":
                    self.refused(read_deed, line[:at] + " " + line[at:])
        for line in ("", " ", "  "):
            self.refused(read_deed, line)

    def test_no_name_is_empty(self):
        for line in NAMELESS:
            self.refused(read_deed, line)

    def test_no_line_feed(self):
        for line in LINES:
            for at in range(len(line) + 1):
                self.refused(read_deed, line[:at] + "\n" + line[at:])

    def test_other_words(self):
        for line in ("eat ox", "Cut ox 2 2 2", "CUT ox 2 2 2", "undo", "redo", "names", "card ox", "ox", "cut",
                     "cuts ox 2 2 2", "do", "twin",
                     "burn", "a"):
            self.refused(read_deed, line)

    def test_all_that_was_done(self):
        room, shows = grown_room(200)
        for deed in room.deeds():
            self.assertEqual(read_deed(deed_line(deed)), deed)


class Rooms(Refusing):
    def test_written(self):
        room = Room()
        self.assertEqual(written(room), "")
        for deed in ELEVEN:
            room.do(deed)
        self.assertEqual(written(room), "".join(line + "\n" for line in LINES))

    def test_written_behind_undo(self):
        room = Room()
        for deed in ELEVEN:
            room.do(deed)
        room.undo(4)
        self.assertEqual(written(room), "".join(line + "\n" for line in LINES[:7]))
        room.redo()
        self.assertEqual(written(room), "".join(line + "\n" for line in LINES[:8]))
        room.undo(8)
        self.assertEqual(written(room), "")

    def test_depth_and_columns_left_out_are_written(self):
        room = Room()
        room.cut("ox", 2)
        room.slit("ox", 0, 0)
        room.glue("ox", 0)
        self.assertEqual(written(room), "cut ox 2 2 1\nslit ox 0 0\nglue ox 0 -\n")

    def test_there_and_back(self):
        for many, number in ((1, 1), (20, 2), (100, 3), (300, 4)):
            room, shows = grown_room(many, number)
            text = written(room)
            told = read_room(text)
            self.assertIsInstance(told, Room)
            self.assertEqual(seen(told), seen(room))
            self.assertEqual(written(told), text)
            self.assertEqual(told.undo(many), room.undo(many))
            self.assertEqual(seen(told), seen(room))

    def test_nothing_waits_in_a_read_room(self):
        room, shows = grown_room(20)
        room.undo(5)
        told = read_room(written(room))
        self.assertEqual((told.deeds(), told.waiting()), (room.deeds(), []))

    def test_the_empty_text(self):
        self.assertEqual(seen(read_room("")), seen(Room()))

    def test_a_row_that_writes_no_deed(self):
        for row in range(12):
            for wrong in ("", " ", "eat ox", "cut ox 2 2", "undo", "burn  ox", " burn ox", "burn ox "):
                rows = LINES[:row] + [wrong] + LINES[row:]
                self.refused(read_room, "".join(line + "\n" for line in rows), row)

    def test_a_row_whose_deed_is_refused(self):
        for row in range(12):
            for wrong in ("burn no", "drop no", "cut no 9 9 9", "cut No 2 2 2", "beside ox ox", "push ox 99 99",
                          "keep no no"):
                rows = LINES[:row] + [wrong] + LINES[row:]
                self.refused(read_room, "".join(line + "\n" for line in rows), row)
        self.refused(read_room, "cut ox 1 1 1\ncut ox 1 1 1\n", 1)
        full = "".join(f"cut {name} 1 1 1\n" for name in "abcdefghijklm")
        self.refused(read_room, full, 12)

    def test_a_row_that_lacks_its_line_feed(self):
        for row, line in enumerate(LINES):
            self.refused(read_room, "".join(told + "\n" for told in LINES[:row]) + line, row)
        self.refused(read_room, "burn ox", 0)
        self.refused(read_room, " ", 0)

    def test_the_first_row_that_is_wrong(self):
        self.refused(read_room, "cut ox 1 1 1\neat ox\nburn cow\ncut", 1)
        self.refused(read_room, "cut ox 1 1 1\nburn cow\neat ox\ncut", 1)
        self.refused(read_room, "cut ox 1 1 1\nburn ox\nburn ox\neat ox", 2)
        self.refused(read_room, "cut ox 1 1 1\nburn ox\nburn ox", 2)

    def test_empty_rows(self):
        self.refused(read_room, "\n", 0)
        self.refused(read_room, "\n\n", 0)
        self.refused(read_room, "\ncut ox 1 1 1\n", 0)
        self.refused(read_room, "cut ox 1 1 1\n\n", 1)
        self.refused(read_room, "cut ox 1 1 1\n\nburn ox\n", 1)

    def test_cards_keep_their_text_in_a_read_room(self):
        room = read_room("cut ox 2 2 2\npush ox 0 2\nslit ox 1 0\nkeep plan ox\nturn ox\n")
        self.assertEqual(str(room.card("ox")), "wfwf/wwff 1.3")
        self.assertEqual(room.plan("plan")[:3], ["2 2", "--", ".|."])

    def test_writing_changes_nothing(self):
        room, shows = grown_room(30)
        room.undo(3)
        before = seen(room)
        self.assertEqual(written(room), written(room))
        self.assertEqual(seen(room), before)


class Tidy(unittest.TestCase):
    def test_tidy(self):
        cases = {
            "": "",
            "\n": "",
            "\n\n\n": "",
            "   ": "",
            "  \n   \n": "",
            "a": "a\n",
            "a\n": "a\n",
            "a\n\n\n": "a\n",
            "\n\na": "a\n",
            "  a  ": "a\n",
            "a  b": "a b\n",
            "  a   b c  \n": "a b c\n",
            "a\n   \nb": "a\nb\n",
            "a\n\nb\n": "a\nb\n",
            " a b\n  c    d \n \n e": "a b\nc d\ne\n",
            "cut ox  2 2 1": "cut ox 2 2 1\n",
            "- \n -": "-\n-\n",
        }
        for text, expected in cases.items():
            self.assertEqual(tidy(text), expected, repr(text))

    def test_what_is_tidy_stays(self):
        chance = random.Random(8)
        for turn in range(300):
            text = "".join(chance.choice("ab  \n") for k in range(chance.randint(0, 30)))
            told = tidy(text)
            self.assertEqual(tidy(told), told)
            self.assertEqual([row.split() for row in told.split("\n")][:-1],
                             [row.split() for row in text.split("\n") if row.split()])
            self.assertNotIn("  ", told)
            self.assertNotIn(" \n", told)
            self.assertNotIn("\n ", told)
            self.assertNotIn("\n\n", told)

    def test_a_rooms_text(self):
        room, shows = grown_room(100)
        text = written(room)
        self.assertEqual(tidy(text), text)
        self.assertEqual(tidy(text.replace(" ", "   ").replace("\n", " \n \n  ")), text)

    def test_a_long_text(self):
        self.assertEqual(tidy(" a" * 10000), " ".join(["a"] * 10000) + "\n")
        self.assertEqual(tidy("\n" * 20000), "")


class Told(unittest.TestCase):
    def test_names_of_arguments(self):
        names = {
            "read_card": "(text)", "deed_line": "(deed)", "read_deed": "(line)", "written": "(room)",
            "read_room": "(text)",
            "tidy": "(text)",
        }
        for name, expected in names.items():
            self.assertEqual(str(inspect.signature(getattr(notes, name))), expected)

    def test_keywords(self):
        self.assertEqual(read_card(text="wf"), Card(["wf"]))
        self.assertEqual(deed_line(deed=("burn", "ox")), "burn ox")
        self.assertEqual(read_deed(line="burn ox"), ("burn", "ox"))
        self.assertEqual(written(room=read_room(text="cut ox 1 1 1\n")), "cut ox 1 1 1\n")
        self.assertEqual(tidy(text=" a"), "a\n")


if __name__ == "__main__":
    unittest.main()
