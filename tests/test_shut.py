import inspect
import unittest

from samples import some_cards
from upleaf import shut
from upleaf.cards import Card
from upleaf.shut import layers, reach, sticks_out, thickest
from upleaf.stairs import corners


class Reach(unittest.TestCase):
    def test_reach(self):
        self.assertEqual(reach(Card(["wfwf", "wwff"])), [[2, 1, 2, 1, 2], [2, 1, 0, 1, 2]])
        self.assertEqual(reach(Card(["fwwff"])), [[2, 3, 2, 1, 2, 3]])
        self.assertEqual(reach(Card(["f" * 8 + "w" * 8])), [list(range(8, 17)) + list(range(15, 7, -1))])

    def test_both_together(self):
        for card in some_cards():
            expected = [[forward + up for forward, up in corners(stair)] for stair in card.stairs()]
            self.assertEqual(reach(card), expected)


class Layers(unittest.TestCase):
    def test_layers(self):
        self.assertEqual(layers(Card(["wfwf", "wwff"])), [[0, 4, 0, 0], [2, 2, 0, 0]])
        self.assertEqual(layers(Card(["ffww"])), [[0, 0, 2, 2]])
        self.assertEqual(layers(Card(["fwwff"])), [[0, 2, 3, 0, 0]])
        self.assertEqual(layers(Card(["wf", "fw"])), [[2, 0], [0, 2]])

    def test_as_many_places_as_cells_and_each_cell_on_one(self):
        for card in some_cards():
            told = layers(card)
            self.assertEqual(len(told), len(card))
            for row, distances in zip(told, reach(card)):
                self.assertEqual((len(row), sum(row)), (card.cells(), card.cells()))
                for place, many in enumerate(row):
                    on = [k for k in range(card.cells()) if sorted(distances[k:k + 2]) == [place, place + 1]]
                    self.assertEqual(many, len(on))

    def test_thickest(self):
        self.assertEqual(thickest(Card(["wfwf", "wwff"])), 4)
        self.assertEqual(thickest(Card(["wwff", "wfwf"])), 4)
        self.assertEqual(thickest(Card(["wwff", "wwff"])), 2)
        self.assertEqual(thickest(Card(["w" + "f" * 8])), 2)
        self.assertEqual(thickest(Card(["fw" * 8])), 16)

    def test_thickest_is_the_greatest_of_the_layers(self):
        for card in some_cards():
            self.assertEqual(thickest(card), sorted(many for row in layers(card) for many in row)[-1])


class SticksOut(unittest.TestCase):
    def test_as_deep_as_high(self):
        self.assertEqual(sticks_out(Card(["wfwf", "wwff"])), [])
        self.assertEqual(sticks_out(Card(["ffww", "wwff", "fwfw"])), [(0, 1), (0, 2), (0, 3), (2, 1), (2, 3)])
        self.assertEqual(sticks_out(Card(["wf", "fw"])), [(1, 1)])

    def test_deeper_than_high(self):
        self.assertEqual(sticks_out(Card(["fffwf"])), [])
        self.assertEqual(sticks_out(Card(["ffffw", "wffff"])), [(0, 4)])
        self.assertEqual(sticks_out(Card(["ffwwf"])), [(0, 2)])

    def test_higher_than_deep(self):
        self.assertEqual(sticks_out(Card(["wfwww"])), [])
        self.assertEqual(sticks_out(Card(["fwwww"])), [(0, 1)])
        self.assertEqual(sticks_out(Card(["wffww", "ffwww"])), [(0, 3), (1, 1), (1, 2), (1, 3)])

    def test_farther_than_the_height_and_than_the_depth(self):
        for card in some_cards():
            expected = []
            for column, row in enumerate(reach(card)):
                for corner, far in enumerate(row):
                    if far > card.height() and far > card.depth():
                        expected.append((column, corner))
            self.assertEqual(sticks_out(card), expected)

    def test_pairs_are_tuples(self):
        self.assertEqual({type(pair) for pair in sticks_out(Card(["ffww"]))}, {tuple})


class Told(unittest.TestCase):
    def test_names_of_arguments(self):
        for name in ("reach", "layers", "thickest", "sticks_out"):
            self.assertEqual(str(inspect.signature(getattr(shut, name))), "(card)", name)

    def test_keywords(self):
        card = Card(["fw"])
        self.assertEqual(
            (reach(card=card), layers(card=card), thickest(card=card), sticks_out(card=card)),
            ([[1, 2, 1]], [[0, 2]], 2, [(0, 1)]),
        )

    def test_slits_do_not_matter(self):
        slit, whole = Card(["ffww", "ffww"], [(1, 0), (1, 3)]), Card(["ffww", "ffww"])
        for ask in (reach, layers, thickest, sticks_out):
            self.assertEqual(ask(slit), ask(whole))

    def test_told_lists_are_new_ones(self):
        card = Card(["ffww", "ffww"], [(1, 0)])
        for ask in (reach, layers, sticks_out):
            before = repr(ask(card))
            told = ask(card)
            for row in told:
                if isinstance(row, list):
                    row.append(99)
            self.assertEqual(repr(ask(card)), before)
            told.clear()
            self.assertEqual(repr(ask(card)), before)
            self.assertEqual(str(card), "ffww/ffww 1.0")

    def test_rows_are_lists_of_their_own(self):
        for ask in (reach, layers):
            rows = ask(Card(["wwff"] * 3))
            self.assertEqual({type(row) for row in rows}, {list})
            rows[0].clear()
            self.assertEqual(rows[1:], ask(Card(["wwff"] * 2)))

    def test_questions_change_nothing(self):
        card = Card(["ffww", "ffww"], [(1, 0)])
        for ask in (reach, layers, thickest, sticks_out):
            self.assertEqual(ask(card), ask(card))
            self.assertEqual(repr(card), "Card(['ffww', 'ffww'], [(1, 0)])")


if __name__ == "__main__":
    unittest.main()
