import inspect
import itertools
import unittest
from unittest import mock

from samples import FAR, all_together, together
from upleaf.cards import Card
from upleaf.errors import BadSize, BadStair, NoColumn, NoCorner, NoEdge, NotJoined, NotSlit, Unlike, Wide
from upleaf.stairs import plain

DOC_STAIRS = ["wfwf", "wwff"]
DOC_SLITS = [(1, 0)]
SQUARE = ["wwff", "wfwf", "wffw", "fwwf", "fwfw", "ffww"]


def some_cards():
    """Cards of one to three columns, without slits, with every other slit, and with all of them."""
    for many in (1, 2, 3):
        for stairs in itertools.product(SQUARE, repeat=many):
            slits = all_together(list(stairs))
            for chosen in ([], slits[::2], slits):
                yield Card(list(stairs), chosen)


class Made(unittest.TestCase):
    def test_one_to_eight_stairs(self):
        for many in range(1, 9):
            self.assertEqual(Card(["wf"] * many).stairs(), ["wf"] * many)

    def test_none_and_nine_stairs(self):
        for many in (0, 9, 10, 200):
            with self.assertRaises(BadSize):
                Card(["wf"] * many)

    def test_bad_size_goes_ahead_of_all_else(self):
        for stairs in ([], ["x"] * 9, ["wf"] * 8 + ["wwf"]):
            with self.assertRaises(BadSize):
                Card(stairs, [(99, 99)])

    def test_a_column_that_has_no_stair(self):
        for bad in ("", "w", "ff", "wfx", "WF", "w" * 9 + "f", "w" * 20000):
            for column in range(8):
                stairs = ["wf"] * 8
                stairs[column] = bad
                with self.assertRaises(BadStair) as caught:
                    Card(stairs)
                self.assertEqual(caught.exception.at, column)

    def test_a_stair_of_another_size(self):
        for bad in ("wwf", "wff", "wwff", "w" * 8 + "f" * 8):
            for column in range(1, 8):
                stairs = ["wf"] * 8
                stairs[column] = bad
                with self.assertRaises(BadStair) as caught:
                    Card(stairs)
                self.assertEqual(caught.exception.at, column)

    def test_of_as_many_cells_but_another_height(self):
        with self.assertRaises(BadStair) as caught:
            Card(["wwf", "wwf", "wff"])
        self.assertEqual(caught.exception.at, 2)

    def test_the_first_bad_column_is_told(self):
        for stairs, at in ((["wf", "wwf", "x"], 1), (["wf", "x", "wwf"], 1), (["x", "wf", "y"], 0), (["wwf", "wf"], 1)):
            with self.assertRaises(BadStair) as caught:
                Card(stairs)
            self.assertEqual(caught.exception.at, at)

    def test_bad_stair_goes_ahead_of_the_slits(self):
        with self.assertRaises(BadStair):
            Card(["wf", "x"], [(99, 0)])
        with self.assertRaises(BadStair):
            Card(["wf", "wwf"], [(0, 0), (1, 1)])

    def test_slits_in_any_order_and_one_twice(self):
        slits = [(0, 0), (0, 3), (1, 0), (1, 3), (2, 0), (2, 1), (2, 2), (2, 3)]
        for order in (slits, slits[::-1], slits[3:] + slits[:3], slits + slits):
            self.assertEqual(Card(DOC_STAIRS, order).slits(), slits)

    def test_slits_left_out_none_and_empty(self):
        for card in (Card(DOC_STAIRS), Card(DOC_STAIRS, None), Card(DOC_STAIRS, []), Card(stairs=DOC_STAIRS)):
            self.assertEqual(card.slits(), [])

    def test_keywords(self):
        self.assertEqual(Card(slits=DOC_SLITS, stairs=DOC_STAIRS), Card(DOC_STAIRS, DOC_SLITS))

    def test_slits_at_no_edge_or_no_cell(self):
        for slit in ((-1, 0), (3, 0), (FAR, 0), (-FAR, 0), (0, -1), (0, 4), (2, 4), (1, FAR), (1, -FAR)):
            with self.assertRaises(NoEdge):
                Card(DOC_STAIRS, [slit])

    def test_slits_of_cells_that_do_not_fall_together(self):
        for stairs in itertools.product(SQUARE, repeat=2):
            stairs = list(stairs)
            fitting = all_together(stairs)
            for slit in itertools.product(range(3), range(4)):
                if slit in fitting:
                    self.assertEqual(Card(stairs, [slit]).slits(), [slit])
                else:
                    with self.assertRaises(NotJoined):
                        Card(stairs, [slit])

    def test_one_kind_at_another_place_does_not_fall_together(self):
        # Both cells 4 are `f`, with unlike numbers of `w` ahead.
        with self.assertRaises(NotJoined):
            Card(["wffffw", "wffwff"], [(1, 4)])

    def test_the_least_slit_that_is_refused_goes_first(self):
        for slits, error in (
            ([(9, 0), (1, 1)], NotJoined), ([(1, 1), (1, 9)], NotJoined), ([(1, 1), (1, -1)], NoEdge),
            ([(1, 1), (-1, 0)], NoEdge), ([(1, 0), (3, 0)], NoEdge), ([(2, 0), (1, 2)], NotJoined),
        ):
            for order in (slits, slits[::-1]):
                with self.assertRaises(error):
                    Card(DOC_STAIRS, order)


class Told(unittest.TestCase):
    def test_sizes(self):
        for height in range(1, 9):
            for depth in range(1, 9):
                card = Card([plain(height, depth)])
                self.assertEqual((card.height(), card.depth(), card.cells()), (height, depth, height + depth))

    def test_stairs_and_slits(self):
        card = Card(DOC_STAIRS, DOC_SLITS)
        self.assertEqual(card.stairs(), ["wfwf", "wwff"])
        self.assertEqual(card.slits(), [(1, 0)])
        self.assertEqual({type(slit) for slit in card.slits()}, {tuple})

    def test_stair(self):
        card = Card(DOC_STAIRS)
        self.assertEqual([card.stair(0), card.stair(column=1)], DOC_STAIRS)
        for column in (-1, -2, 2, 8, FAR, -FAR):
            with self.assertRaises(NoColumn):
                card.stair(column)

    def test_joined(self):
        card = Card(DOC_STAIRS, DOC_SLITS)
        told = [[card.joined(edge, at) for at in range(4)] for edge in range(3)]
        self.assertEqual(told, [[True, False, False, True], [False, False, False, True], [True] * 4])
        self.assertIs(card.joined(at=3, edge=1), True)
        self.assertIs(card.joined(at=0, edge=1), False)

    def test_joined_is_together_and_not_slit(self):
        for card in some_cards():
            for edge in range(len(card) + 1):
                for at in range(card.cells()):
                    expected = together(card.stairs(), edge, at) and (edge, at) not in card.slits()
                    self.assertIs(card.joined(edge, at), expected)

    def test_joined_at_no_edge_or_no_cell(self):
        for edge, at in ((-1, 0), (3, 0), (0, -1), (0, 4), (2, 4), (FAR, 0), (0, FAR), (-FAR, -FAR)):
            with self.assertRaises(NoEdge):
                Card(DOC_STAIRS).joined(edge, at)


class Pushed(unittest.TestCase):
    def test_slits_that_are_gone_and_slits_that_stay(self):
        card = Card(["wwff", "wwff"], [(0, 0), (0, 1), (1, 1), (1, 2), (1, 3), (2, 2)])
        self.assertEqual(card.pushed(0, 2), Card(["wfwf", "wwff"], [(0, 0), (1, 3), (2, 2)]))
        self.assertEqual(card.pushed(1, 2), Card(["wwff", "wfwf"], [(0, 0), (0, 1), (1, 3)]))

    def test_slits_that_are_gone_do_not_come_back(self):
        card = Card(["wwff"], [(0, 0), (0, 1)])
        self.assertEqual(card.pushed(0, 2).pushed(0, 2), Card(["wwff"], [(0, 0)]))

    def test_every_push(self):
        for card in some_cards():
            for column in range(len(card)):
                for corner in range(1, card.cells()):
                    stairs = card.stairs()
                    signs = list(stairs[column])
                    if signs[corner - 1] == signs[corner]:
                        with self.assertRaises(NoCorner):
                            card.pushed(column, corner)
                        continue
                    signs[corner - 1:corner + 1] = signs[corner], signs[corner - 1]
                    stairs[column] = "".join(signs)
                    kept = [slit for slit in card.slits() if together(stairs, *slit)]
                    self.assertEqual(card.pushed(column, corner), Card(stairs, kept))

    def test_refusals(self):
        card = Card(DOC_STAIRS)
        for column in (-1, 2, FAR, -FAR):
            for corner in (1, 0, 99):
                with self.assertRaises(NoColumn):
                    card.pushed(column, corner)
        for corner in (-1, 0, 4, 5, FAR, -FAR):
            with self.assertRaises(NoCorner):
                card.pushed(0, corner)
        with self.assertRaises(NoCorner):
            card.pushed(1, 1)

    def test_keywords(self):
        self.assertEqual(Card(["wf"]).pushed(corner=1, column=0), Card(["fw"]))


class SlitAndGlued(unittest.TestCase):
    def test_slit(self):
        card = Card(DOC_STAIRS, DOC_SLITS)
        self.assertEqual(card.slit(0, 3).slits(), [(0, 3), (1, 0)])
        self.assertEqual(card.slit(at=2, edge=2).slits(), [(1, 0), (2, 2)])
        self.assertEqual(card.slit(0, 3).stairs(), DOC_STAIRS)

    def test_slit_refused(self):
        card = Card(DOC_STAIRS, DOC_SLITS)
        for edge, at in ((1, 0), (1, 1), (0, 2)):
            with self.assertRaises(NotJoined):
                card.slit(edge, at)
        for edge, at in ((-1, 0), (3, 0), (0, -1), (0, 4), (FAR, FAR), (-FAR, 0)):
            with self.assertRaises(NoEdge):
                card.slit(edge, at)

    def test_glued_one(self):
        card = Card(DOC_STAIRS, [(0, 0), (1, 0), (1, 3), (2, 0)])
        self.assertEqual(card.glued(1, 0).slits(), [(0, 0), (1, 3), (2, 0)])
        self.assertEqual(card.glued(at=3, edge=1).slits(), [(0, 0), (1, 0), (2, 0)])
        self.assertEqual(card.glued(0, 0).slits(), [(1, 0), (1, 3), (2, 0)])
        self.assertEqual(card.glued(1, 0).stairs(), DOC_STAIRS)

    def test_glued_all_of_an_edge(self):
        card = Card(DOC_STAIRS, [(0, 0), (1, 0), (1, 3), (2, 0)])
        for glued in (card.glued(1), card.glued(1, None), card.glued(edge=1), card.glued(edge=1, at=None)):
            self.assertEqual(glued, Card(DOC_STAIRS, [(0, 0), (2, 0)]))
        self.assertEqual(card.glued(0).glued(1).glued(2), Card(DOC_STAIRS))

    def test_glued_refused(self):
        card = Card(DOC_STAIRS, DOC_SLITS)
        for call in ((0,), (2, None), (1, 3), (1, 1), (0, 0)):
            with self.assertRaises(NotSlit):
                card.glued(*call)
        for call in ((-1,), (3,), (FAR,), (-FAR, None), (-1, 0), (3, 0), (1, -1), (1, 4), (1, FAR), (1, -FAR)):
            with self.assertRaises(NoEdge):
                card.glued(*call)

    def test_slit_and_glued_again(self):
        card = Card(SQUARE)
        for edge, at in all_together(SQUARE):
            self.assertEqual(card.slit(edge, at).glued(edge, at), card)
            self.assertEqual(card.slit(edge, at).glued(edge), card)


class MirroredAndTurned(unittest.TestCase):
    def test_mirrored(self):
        card = Card(["wfwf", "wwff", "ffww"], [(0, 0), (1, 3)])
        self.assertEqual(card.mirrored(), Card(["ffww", "wwff", "wfwf"], [(3, 0), (2, 3)]))

    def test_turned(self):
        self.assertEqual(Card(DOC_STAIRS, [(1, 0)]).turned(), Card(["wfwf", "wwff"], [(1, 3)]))
        card = Card(["wwwf", "wfww"], [(0, 0), (0, 2), (1, 0), (2, 0)])
        self.assertEqual(card.turned(), Card(["wfff", "ffwf"], [(0, 3), (0, 1), (1, 3), (2, 3)]))

    def test_every_one(self):
        for card in some_cards():
            mirrored, turned = card.mirrored(), card.turned()
            self.assertEqual(mirrored.stairs(), card.stairs()[::-1])
            self.assertEqual(mirrored.slits(), sorted((len(card) - edge, at) for edge, at in card.slits()))
            exchanged = [stair[::-1].translate(str.maketrans("wf", "fw")) for stair in card.stairs()]
            self.assertEqual(turned.stairs(), exchanged)
            self.assertEqual(turned.slits(), sorted((edge, card.cells() - 1 - at) for edge, at in card.slits()))
            self.assertEqual(mirrored.mirrored(), card)
            self.assertEqual(turned.turned(), card)

    def test_turned_exchanges_height_and_depth(self):
        turned = Card(["wwwf", "wfww"]).turned()
        self.assertEqual((turned.height(), turned.depth()), (1, 3))


class BesideAndParted(unittest.TestCase):
    def test_beside(self):
        left = Card(["wwff", "wfwf"], [(0, 0), (1, 0), (2, 3)])
        right = Card(["wwff", "wwff", "ffww"], [(0, 0), (0, 1), (1, 2)])
        expected = Card(["wwff", "wfwf", "wwff", "wwff", "ffww"], [(0, 0), (1, 0), (3, 2)])
        self.assertEqual(left.beside(right), expected)
        self.assertEqual(left.beside(other=right), expected)

    def test_beside_keeps_the_outer_leaves_slits(self):
        card = Card(["wf"], [(0, 0), (0, 1), (1, 0), (1, 1)])
        self.assertEqual(card.beside(card), Card(["wf", "wf"], [(0, 0), (0, 1), (2, 0), (2, 1)]))

    def test_beside_refused(self):
        card = Card(["wwff"] * 5)
        for stairs in (["wwf"], ["wff"], ["wfff"], ["wwwf"], ["wwffff"]):
            for many in (1, 8):
                with self.assertRaises(Unlike):
                    card.beside(Card(stairs * many))
        for many in (4, 5, 8):
            with self.assertRaises(Wide):
                card.beside(Card(["ffww"] * many))
        self.assertEqual(len(card.beside(Card(["ffww"] * 3))), 8)

    def test_parted(self):
        card = Card(["wwff"] * 3, [(0, 1), (1, 0), (1, 3), (2, 2), (3, 1)])
        self.assertEqual(card.parted(1), (Card(["wwff"], [(0, 1)]), Card(["wwff"] * 2, [(1, 2), (2, 1)])))
        self.assertEqual(card.parted(2), (Card(["wwff"] * 2, [(0, 1), (1, 0), (1, 3)]), Card(["wwff"], [(1, 1)])))
        self.assertEqual(card.parted(at=1), card.parted(1))
        self.assertIsInstance(card.parted(1), tuple)

    def test_parted_refused(self):
        card = Card(["wwff"] * 3)
        for at in (-1, 0, 3, 4, FAR, -FAR):
            with self.assertRaises(NoEdge):
                card.parted(at)
        for at in (0, 1):
            with self.assertRaises(NoEdge):
                Card(["wf"]).parted(at)

    def test_parted_and_set_beside_again(self):
        for card in some_cards():
            for at in range(1, len(card)):
                left, right = card.parted(at)
                self.assertEqual(left.stairs() + right.stairs(), card.stairs())
                kept = [slit for slit in card.slits() if slit[0] != at]
                self.assertEqual(left.beside(right), Card(card.stairs(), kept))


class Shown(unittest.TestCase):
    def test_equal(self):
        self.assertTrue(Card(DOC_STAIRS, DOC_SLITS) == Card(list(DOC_STAIRS), list(DOC_SLITS)))
        self.assertFalse(Card(DOC_STAIRS, DOC_SLITS) != Card(DOC_STAIRS, DOC_SLITS))
        self.assertTrue(Card(DOC_STAIRS, [(0, 0), (1, 0)]) == Card(DOC_STAIRS, [(1, 0), (0, 0), (1, 0)]))

    def test_unequal(self):
        card = Card(DOC_STAIRS, DOC_SLITS)
        others = (Card(DOC_STAIRS), Card(DOC_STAIRS, [(1, 3)]), Card(["wwff", "wwff"], DOC_SLITS), Card(["wfwf"]))
        for other in others:
            self.assertFalse(card == other)
            self.assertTrue(card != other)

    def test_equals_nothing_else(self):
        card = Card(DOC_STAIRS, DOC_SLITS)
        for other in (str(card), repr(card), DOC_STAIRS, (DOC_STAIRS, DOC_SLITS), None, 0, 2, True, {}, mock.ANY):
            self.assertIs(card == other, False)
            self.assertIs(card != other, True)

    def test_in(self):
        card = Card(DOC_STAIRS, DOC_SLITS)
        self.assertTrue(card in [None, "x", Card(DOC_STAIRS), Card(DOC_STAIRS, DOC_SLITS)])
        self.assertFalse(card in [None, str(card), DOC_STAIRS, 2, Card(DOC_STAIRS)])
        self.assertFalse(str(card) in [card])

    def test_length(self):
        for many in range(1, 9):
            self.assertEqual(len(Card(["wf"] * many)), many)

    def test_text(self):
        self.assertEqual(str(Card(DOC_STAIRS, DOC_SLITS)), "wfwf/wwff 1.0")
        self.assertEqual(str(Card(["wf"])), "wf")
        self.assertEqual(str(Card(["wf"] * 3, [(3, 1), (0, 0), (3, 0)])), "wf/wf/wf 0.0 3.0 3.1")
        tall = Card([plain(8)] * 8, [(8, 15), (8, 2), (8, 10)])
        self.assertEqual(str(tall), "/".join(["w" * 8 + "f" * 8] * 8) + " 8.2 8.10 8.15")

    def test_repr(self):
        self.assertEqual(repr(Card(DOC_STAIRS, DOC_SLITS)), "Card(['wfwf', 'wwff'], [(1, 0)])")
        self.assertEqual(repr(Card(["wf"])), "Card(['wf'], [])")
        for card in some_cards():
            self.assertEqual(eval(repr(card)), card)


class Unchanged(unittest.TestCase):
    def test_handed_lists_are_not_changed(self):
        stairs, slits = list(DOC_STAIRS), [(2, 1), (1, 0), (2, 1)]
        Card(stairs, slits)
        self.assertEqual((stairs, slits), (DOC_STAIRS, [(2, 1), (1, 0), (2, 1)]))

    def test_refused_lists_are_not_changed(self):
        stairs, slits = list(DOC_STAIRS), [(2, 1), (1, 1)]
        with self.assertRaises(NotJoined):
            Card(stairs, slits)
        self.assertEqual((stairs, slits), (DOC_STAIRS, [(2, 1), (1, 1)]))

    def test_handed_lists_changed_afterwards_change_no_card(self):
        stairs, slits = list(DOC_STAIRS), list(DOC_SLITS)
        card = Card(stairs, slits)
        stairs[0] = "ffww"
        stairs.append("wwff")
        slits.clear()
        self.assertEqual(str(card), "wfwf/wwff 1.0")

    def test_told_lists_changed_change_no_card(self):
        card = Card(DOC_STAIRS, DOC_SLITS)
        card.stairs().append("wwff")
        card.stairs()[0] = "ffww"
        card.slits().clear()
        self.assertEqual((card.stairs(), card.slits()), (DOC_STAIRS, DOC_SLITS))

    def test_the_elder_card_stays_as_it_was(self):
        card, other = Card(DOC_STAIRS, DOC_SLITS), Card(["wwff"], [(0, 0)])
        asked = [
            lambda: card.pushed(0, 1), lambda: card.slit(0, 0), lambda: card.glued(1), lambda: card.glued(1, 0),
            card.mirrored, card.turned, lambda: card.beside(other), lambda: card.parted(1), card.height,
            card.depth, card.cells, card.stairs, card.slits, lambda: card.stair(0), lambda: card.joined(1, 0),
            lambda: len(card), lambda: str(card), lambda: repr(card), lambda: card == other,
        ]
        for ask in asked:
            first = ask()
            self.assertEqual(ask(), first)
            self.assertEqual((str(card), str(other)), ("wfwf/wwff 1.0", "wwff 0.0"))

    def test_what_is_refused_changes_nothing(self):
        card = Card(DOC_STAIRS, DOC_SLITS)
        refused = [
            (NoColumn, lambda: card.stair(2)), (NoEdge, lambda: card.joined(3, 0)),
            (NoColumn, lambda: card.pushed(2, 1)), (NoCorner, lambda: card.pushed(1, 1)),
            (NotJoined, lambda: card.slit(1, 0)), (NotSlit, lambda: card.glued(0)),
            (Unlike, lambda: card.beside(Card(["wf"]))), (Wide, lambda: card.beside(Card(["wwff"] * 7))),
            (NoEdge, lambda: card.parted(0)),
        ]
        for error, ask in refused:
            with self.assertRaises(error):
                ask()
            self.assertEqual(repr(card), "Card(['wfwf', 'wwff'], [(1, 0)])")

    def test_what_was_told_may_be_handed_in_again(self):
        for card in some_cards():
            self.assertEqual(Card(card.stairs(), card.slits()), card)


class Interface(unittest.TestCase):
    def test_methods_stand_in_the_class_itself(self):
        expected = {
            "__init__": "(self, stairs, slits=None)", "height": "(self)", "depth": "(self)", "cells": "(self)",
            "stairs": "(self)", "slits": "(self)", "stair": "(self, column)", "joined": "(self, edge, at)",
            "pushed": "(self, column, corner)", "slit": "(self, edge, at)", "glued": "(self, edge, at=None)",
            "mirrored": "(self)", "turned": "(self)", "beside": "(self, other)", "parted": "(self, at)",
        }
        for name, told in expected.items():
            self.assertIn(name, vars(Card))
            self.assertEqual(str(inspect.signature(vars(Card)[name])), told, name)


if __name__ == "__main__":
    unittest.main()
