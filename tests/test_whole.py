"""What the document promises over the whole program."""

import copy
import importlib
import unittest

from rooms import grown_room, room_of, seen
from samples import FAR, mixed_cards
from upleaf.cards import Card
from upleaf.counts import card_at, card_number
from upleaf.desk import Desk
from upleaf.errors import CardError, RoomError
from upleaf.mends import least_glue, tied
from upleaf.motion import freedom, held, is_motion, is_paper, loose_patches, stiff
from upleaf.notes import read_card, read_room, written
from upleaf.patches import patch_of, patches
from upleaf.pushes import apart, shared, together, way
from upleaf.rings import rings
from upleaf.room import Room
from upleaf.sheet import creases, cut_edges, drawing, joined_edges, read_drawing
from upleaf.shut import layers, reach, sticks_out, thickest
from upleaf.stairs import corners, squares
from upleaf.views import above, from_above, from_front, front, lit, reaching

INTERFACE = {
    "errors": """
        CardError BadSize BadStair BadNumber NoColumn NoCell NoCorner NoEdge NotJoined NotSlit Unlike Wide BadView
        BadDrawing NoPatch TooMany BadName BadText RoomError NoCard NoPlan Taken SameCard Full NothingLeft
    """,
    "stairs": "is_stair sides plain corners squares turned pushed",
    "counts": "ways stair_number stair_at how_many card_number card_at",
    "cards": "Card",
    "sheet": "joined_edges cut_edges creases drawing read_drawing",
    "views": "front above from_front from_above lit reaching",
    "shut": "reach layers thickest sticks_out",
    "pushes": "apart shared together way",
    "patches": "patches patch_of",
    "rings": "rings",
    "motion": "freedom stiff held loose_patches is_motion is_paper",
    "mends": "least_glue tied",
    "room": "Room",
    "notes": "read_card deed_line read_deed written read_room tidy",
    "desk": "Desk",
}

OF_A_CARD = (
    joined_edges, cut_edges, creases, drawing, front, above, lit, reaching, reach, layers, thickest, sticks_out,
    patches, rings,
    freedom, stiff, loose_patches, tied, card_number, str, repr, len, Card.stairs, Card.slits, Card.cells,
    Card.height, Card.depth,
    lambda card: card.mirrored().stairs(), lambda card: card.turned().slits(), lambda card: held(card, 0),
    lambda card: held(card, len(patches(card)) - 1), lambda card: patch_of(card, 0, 0),
    lambda card: [corners(stair) for stair in card.stairs()], lambda card: [squares(stair) for stair in card.stairs()],
    lambda card: least_glue(card) if len(card.slits()) <= 6 else None,
    lambda card: way(card, Card(card.stairs()[::-1])), lambda card: apart(card, card.mirrored()),
    lambda card: shared(card, card.mirrored()).slits(), lambda card: together(card, card.mirrored()).stairs(),
)


def spoil(told):
    """Changes all lists, however deep, that were told."""
    if isinstance(told, (list, tuple)):
        for part in told:
            spoil(part)
    if isinstance(told, list):
        told.reverse()
        told.append("spoilt")
        del told[:-1]


class Whole(unittest.TestCase):
    def test_all_names_of_the_interface(self):
        for module, names in INTERFACE.items():
            for name in names.split():
                self.assertTrue(callable(getattr(importlib.import_module("upleaf." + module), name)), (module, name))

    def test_told_lists_are_new_ones_the_lists_within_them_too(self):
        for card in mixed_cards(25, most_columns=4, longest=4):
            before = repr(card)
            for ask in OF_A_CARD:
                first = copy.deepcopy(ask(card))
                spoil(ask(card))
                self.assertEqual(ask(card), first)
                self.assertEqual(ask(Card(card.stairs(), card.slits())), first)
                self.assertEqual(repr(card), before)

    def test_told_lists_share_no_list(self):
        for card in mixed_cards(25, most_columns=4, longest=4):
            for ask in OF_A_CARD:
                whole = ask(card)
                inner, left = [], [whole]
                while left:
                    told = left.pop()
                    if isinstance(told, list):
                        inner.append(id(told))
                    if isinstance(told, (list, tuple)):
                        left += told
                self.assertEqual(len(inner), len(set(inner)))

    def test_handed_lists_stay_as_they_were_and_are_not_kept(self):
        stairs, slits = ["wfwf", "wwff"], [(1, 3), (1, 0), (1, 3)]
        card = Card(stairs, slits)
        self.assertEqual((stairs, slits), (["wfwf", "wwff"], [(1, 3), (1, 0), (1, 3)]))
        spoil([stairs, slits])
        self.assertEqual(str(card), "wfwf/wwff 1.0 1.3")
        rows = drawing(card)
        read = read_drawing(rows)
        self.assertEqual(rows, drawing(card))
        spoil(rows)
        self.assertEqual(read, card)
        for look, back, size in ((front, from_front, 2), (above, from_above, 2)):
            rows = look(card)
            seen_so = back(rows, size)
            self.assertEqual(rows, look(card))
            spoil(rows)
            self.assertEqual(seen_so, Card(["wfwf", "wwff"]))

    def test_handed_motions_and_papers_stay_as_they_were(self):
        for card in mixed_cards(15, most_columns=4, longest=4):
            for patch in range(len(patches(card))):
                word, proof = held(card, patch)
                handed = copy.deepcopy(proof)
                self.assertTrue(is_paper(card, patch, handed) if word == "held" else is_motion(card, handed))
                self.assertEqual(handed, proof)

    def test_what_was_told_may_be_handed_in_again_however_great(self):
        most = card_number(Card(["w" * 8 + "f" * 8] * 8))
        self.assertEqual(card_number(card_at(8, 8, 8, most)), most)
        card = read_card("fwfw/fwfw")
        turns = [number * FAR * FAR for number in held(card, 2)[1]]
        self.assertTrue(is_motion(card, turns))
        times, rows = held(read_card("ffww"), 2)[1]
        self.assertTrue(is_paper(read_card("ffww"), 2, (times * FAR * FAR,
                                                        [(ring, number * FAR * FAR) for ring, number in rows])))

    def test_cards_of_a_room_stay_as_they_were(self):
        room = room_of(ox="wfwf/wwff")
        card = room.card("ox")
        for deed in (("slit", "ox", 1, 0), ("push", "ox", 0, 1), ("mirror", "ox"), ("turn", "ox"), ("burn", "ox")):
            room.do(deed)
            self.assertEqual(str(card), "wfwf/wwff")

    def test_what_is_refused_changes_nothing(self):
        room, shows = grown_room(50)
        while not (room.plans() and len(room) > 1):
            room.undo()
        before = seen(room)
        name, other = room.names()[:2]
        plan = room.plans()[0]
        deeds = [
            ("cut", name, 1, 1, 1), ("cut", "fresh", 9, 1, 1), ("cut", "Bad", 1, 1, 1), ("push", name, 9, 1),
            ("push", name, 0, 0),
            ("slit", name, 9, 0), ("glue", name, 9, None), ("mirror", "no"), ("turn", "no"), ("beside", name, name),
            ("beside", name, "no"), ("part", name, 0, "fresh"), ("part", name, 99, other), ("burn", "no"),
            ("keep", plan, name),
            ("keep", "Bad", name), ("keep", "fresh", "no"), ("drop", "no"),
        ]
        for deed in deeds:
            with self.assertRaises((CardError, RoomError)):
                room.do(deed)
            self.assertEqual(seen(room), before, deed)
        for ask in (room.undo, room.redo):
            for times in (0, -1, 301, FAR):
                with self.assertRaises(RoomError):
                    ask(times)
                self.assertEqual(seen(room), before)
        desk = Desk(room)
        for line in ("", "what", "burn no", "cut Bad 1 1 1", "undo 1", f"cut {name} 1 1 1", f"part {name} 0 fresh"):
            desk.say(line)
            self.assertEqual(seen(room), before, line)

    def test_rooms_are_apart_from_one_another(self):
        one, other = Room(), Room()
        one.cut("ox", 1)
        one.keep("plan", "ox")
        self.assertEqual(seen(other), seen(Room()))
        told = read_room(written(one))
        told.burn("ox")
        self.assertEqual(one.names(), ["ox"])


if __name__ == "__main__":
    unittest.main()
