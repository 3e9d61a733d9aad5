import inspect
import unittest

from samples import great_cards, mixed_cards, some_cards
from upleaf import rings as module
from upleaf.cards import Card
from upleaf.patches import patches
from upleaf.rings import rings
from upleaf.stairs import plain


def side(card, column, many, kind, numbers):
    """The patches of the first cells of the kind in a column or a leaf, one for each cell."""
    if 0 <= column < len(card):
        return [numbers[column, at] for at in range(many) if card.stair(column)[at] == kind]
    leaf = plain(card.height(), card.depth())
    return ["wf".index(kind)] * leaf[:many].count(kind)


def pairs(adding, taking):
    both = sorted(set(adding + taking))
    sums = [(patch, adding.count(patch) - taking.count(patch)) for patch in both]
    return [(patch, number) for patch, number in sums if number]


def rings_by_cells(card):
    """The rings, each cell counted one by one."""
    numbers = {cell: number for number, (kind, cells) in enumerate(patches(card)) for cell in cells}
    meetings = [("end", column, card.cells(), column, -1) for column in range(len(card))]
    for edge in range(len(card) + 1):
        meetings += [("edge", edge, at, edge - 1, edge) for at in range(card.cells()) if card.joined(edge, at)]
    told = []
    for name, number, many, left, right in meetings:
        for kind in "wf":
            sums = pairs(side(card, left, many, kind, numbers), side(card, right, many, kind, numbers))
            told.append((name, number, many, kind, sums))
    return [ring for ring in told if ring[4]]


class Rings(unittest.TestCase):
    def test_one_column(self):
        self.assertEqual(
            rings(Card(["wfwf"])),
            [
                ("end", 0, 4, "w", [(0, -1), (3, 1)]),
                ("end", 0, 4, "f", [(1, -1), (2, 1)]),
                ("edge", 0, 3, "w", [(0, 1), (3, -1)]),
                ("edge", 0, 3, "f", [(1, 1), (2, -1)]),
                ("edge", 1, 3, "w", [(0, -1), (3, 1)]),
                ("edge", 1, 3, "f", [(1, -1), (2, 1)]),
            ],
        )

    def test_two_columns(self):
        self.assertEqual(
            rings(Card(["ffww", "fwwf"])),
            [
                ("end", 0, 4, "w", [(0, -2), (3, 2)]),
                ("end", 0, 4, "f", [(1, -2), (2, 2)]),
                ("end", 1, 4, "w", [(0, -2), (4, 2)]),
                ("end", 1, 4, "f", [(1, -1), (2, 1)]),
                ("edge", 2, 3, "w", [(0, -2), (4, 2)]),
                ("edge", 2, 3, "f", [(1, -1), (2, 1)]),
            ],
        )

    def test_an_edge_between_two_columns(self):
        told = rings(Card(["fwfwf", "fwffw"], [(1, 0)]))
        self.assertEqual(
            [ring for ring in told if ring[:2] == ("edge", 1)],
            [("edge", 1, 1, "f", [(2, 1), (6, -1)]), ("edge", 1, 2, "f", [(2, 1), (6, -1)])],
        )

    def test_rings_without_pairs_are_not_told(self):
        self.assertEqual(rings(Card(["wwff"])), [])
        self.assertEqual(rings(Card([plain(8)] * 8)), [])
        self.assertEqual(rings(Card([plain(8)] * 8, [(4, 3), (8, 8)])), [])
        told = rings(Card(["wfff", "fffw"]))
        self.assertEqual([ring[:4] for ring in told], [("end", 1, 4, "w"), ("end", 1, 4, "f")])

    def test_one_kind_alone(self):
        told = rings(Card(["fwfw", "fwfw"], [(1, 0)]))
        self.assertEqual([ring[2:4] for ring in told if ring[0] == "edge"], [(1, "f"), (2, "f"), (3, "f")])

    def test_slit_edges_have_none(self):
        for card in mixed_cards(60):
            told = [ring[1:3] for ring in rings(card) if ring[0] == "edge"]
            self.assertEqual([pair for pair in told if not card.joined(*pair)], [])
        whole = [ring[1:3] for ring in rings(Card(["wfwf"]))]
        self.assertIn((0, 3), whole)
        slit = [ring[1:3] for ring in rings(Card(["wfwf"], [(0, 3)]))]
        self.assertNotIn((0, 3), slit)
        self.assertIn((1, 3), slit)

    def test_a_slit_cell_counts_for_the_edges_behind_it(self):
        card = Card(["fwfw", "fwfw"], [(1, 0), (1, 1)])
        self.assertEqual(
            [ring for ring in rings(card) if ring[0] == "edge"],
            [
                ("edge", 1, 2, "w", [(3, 1), (7, -1)]), ("edge", 1, 2, "f", [(2, 1), (6, -1)]),
                ("edge", 1, 3, "w", [(3, 1), (7, -1)]), ("edge", 1, 3, "f", [(2, 1), (6, -1)]),
            ],
        )

    def test_edges_at_both_leaves(self):
        told = [ring[:4] for ring in rings(Card(["wffw" * 2 + "f"] * 8)) if ring[0] == "edge"]
        self.assertEqual({edge for name, edge, at, kind in told}, {0, 8})

    def test_by_cells(self):
        for cards in (some_cards(), mixed_cards(60), great_cards()):
            for card in cards:
                self.assertEqual(rings(card), rings_by_cells(card), card)

    def test_their_order(self):
        for cards in (mixed_cards(60), great_cards()):
            for card in cards:
                told = [(name != "end", number, at, kind != "w") for name, number, at, kind, pairs in rings(card)]
                self.assertEqual(told, sorted(set(told)))

    def test_pairs_are_rising_and_none_is_nought(self):
        for cards in (mixed_cards(60), great_cards()):
            for card in cards:
                for ring in rings(card):
                    counted = [patch for patch, number in ring[4]]
                    self.assertEqual(counted, sorted(set(counted)))
                    self.assertNotIn(0, [number for patch, number in ring[4]])
                    self.assertNotEqual(ring[4], [])

    def test_kinds_of_values(self):
        told = rings(Card(["wfwf"]))
        self.assertIsInstance(told, list)
        for ring in told:
            self.assertIsInstance(ring, tuple)
            self.assertEqual([type(part) for part in ring], [str, int, int, str, list])
            self.assertEqual({type(pair) for pair in ring[4]}, {tuple})


class Told(unittest.TestCase):
    def test_names_of_arguments(self):
        self.assertEqual(str(inspect.signature(module.rings)), "(card)")
        self.assertEqual([ring[4] for ring in rings(card=Card(["fw"]))], [[(0, -1), (3, 1)], [(1, -1), (2, 1)]])

    def test_told_lists_are_new_ones(self):
        card = Card(["wfwf", "wwff"], [(1, 0)])
        before = repr(rings(card))
        told = rings(card)
        for ring in told:
            ring[4].append((9, 9))
        self.assertEqual(repr(rings(card)), before)
        told.clear()
        self.assertEqual(repr(rings(card)), before)

    def test_the_handed_card_stays_as_it_was(self):
        for card in mixed_cards(20):
            before = repr(card)
            told = rings(card)
            self.assertEqual((repr(card), rings(card)), (before, told))


if __name__ == "__main__":
    unittest.main()
