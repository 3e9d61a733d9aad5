import inspect
import unittest

from samples import FAR, great_cards, mixed_cards, some_cards
from upleaf import patches as module
from upleaf.cards import Card
from upleaf.errors import NoCell, NoColumn
from upleaf.patches import patch_of, patches


def neighbours(card, cell):
    """The cells of one patch with this one by themselves, the leaves being "w" and "f"."""
    column, at = cell
    stair = card.stair(column)
    kind = stair[at]
    told = [(column, k) for k in (at - 1, at + 1) if 0 <= k < card.cells() and stair[k] == kind]
    told += [(column - 1, at)] if card.joined(column, at) else []
    told += [(column + 1, at)] if card.joined(column + 1, at) else []
    told += ["w"] if kind == "w" and "f" not in stair[:at] else []
    told += ["f"] if kind == "f" and "w" not in stair[at:] else []
    return [kind if step != kind and not 0 <= step[0] < len(card) else step for step in told]


def spread(card, start):
    """All cells that neighbours lead to, but for those of the leaves."""
    cells = [(column, at) for column in range(len(card)) for at in range(card.cells())]
    beside = {cell: neighbours(card, cell) for cell in cells}
    beside |= {leaf: [cell for cell in cells if leaf in beside[cell]] for leaf in "wf"}
    found, left = set(), [start]
    while left:
        now = left.pop()
        if now not in found:
            found.add(now)
            left += beside[now]
    return sorted(found - {"w", "f"})


def patches_by_spreading(card):
    told = [("w", spread(card, "w")), ("f", spread(card, "f"))]
    for column in range(len(card)):
        for at, kind in enumerate(card.stair(column)):
            if not any((column, at) in cells for kind, cells in told):
                told.append((kind, spread(card, (column, at))))
    return told


class Patches(unittest.TestCase):
    def test_neighbours_of_one_kind_in_a_column(self):
        self.assertEqual(
            patches(Card(["wffwwf"])),
            [("w", [(0, 0)]), ("f", [(0, 5)]), ("f", [(0, 1), (0, 2)]), ("w", [(0, 3), (0, 4)])],
        )

    def test_the_runs_at_the_leaves(self):
        self.assertEqual(patches(Card(["wwff"])), [("w", [(0, 0), (0, 1)]), ("f", [(0, 2), (0, 3)])])
        self.assertEqual(
            patches(Card(["wwfwff"])),
            [("w", [(0, 0), (0, 1)]), ("f", [(0, 4), (0, 5)]), ("f", [(0, 2)]), ("w", [(0, 3)])],
        )

    def test_runs_at_the_leaves_are_held_there_by_the_sheet_alone(self):
        stairs = ["wwff", "wwff"]
        everywhere = [(edge, at) for edge in range(3) for at in range(4)]
        self.assertEqual(patches(Card(stairs, everywhere)), patches(Card(stairs)))
        self.assertEqual(
            patches(Card(stairs, everywhere)),
            [("w", [(0, 0), (0, 1), (1, 0), (1, 1)]), ("f", [(0, 2), (0, 3), (1, 2), (1, 3)])],
        )

    def test_leaves_without_cells_of_columns_are_told_too(self):
        self.assertEqual(patches(Card(["fw"])), [("w", []), ("f", []), ("f", [(0, 0)]), ("w", [(0, 1)])])
        self.assertEqual(patches(Card(["fwf"])), [("w", []), ("f", [(0, 2)]), ("f", [(0, 0)]), ("w", [(0, 1)])])
        self.assertEqual(patches(Card(["wfw"])), [("w", [(0, 0)]), ("f", []), ("f", [(0, 1)]), ("w", [(0, 2)])])

    def test_joined_and_slit(self):
        self.assertEqual(
            patches(Card(["ffww", "ffww"], [(1, 2), (1, 3)])),
            [
                ("w", []), ("f", []), ("f", [(0, 0), (0, 1), (1, 0), (1, 1)]),
                ("w", [(0, 2), (0, 3)]), ("w", [(1, 2), (1, 3)]),
            ],
        )

    def test_one_joined_cell_is_enough(self):
        whole = patches(Card(["ffww", "ffww"]))
        self.assertEqual(patches(Card(["ffww", "ffww"], [(1, 0), (1, 2)])), whole)
        self.assertEqual(patches(Card(["ffww", "ffww"], [(1, 1), (1, 3)])), whole)

    def test_cells_that_do_not_fall_together(self):
        self.assertEqual(
            patches(Card(["fwfw", "wfwf"])),
            [
                ("w", [(1, 0)]), ("f", [(1, 3)]), ("f", [(0, 0)]), ("w", [(0, 1)]), ("f", [(0, 2)]), ("w", [(0, 3)]),
                ("f", [(1, 1)]), ("w", [(1, 2)]),
            ],
        )

    def test_together_by_way_of_a_third(self):
        told = patches(Card(["ffwwwf", "fffwww", "ffwwfw"]))
        self.assertEqual(told[2], ("f", [(0, 0), (0, 1), (1, 0), (1, 1), (1, 2), (2, 0), (2, 1)]))
        told = patches(Card(["ffwwwf", "fffwww", "ffwwfw"], [(2, 0), (2, 1)]))
        self.assertEqual(told[2], ("f", [(0, 0), (0, 1), (1, 0), (1, 1), (1, 2)]))
        self.assertIn(("f", [(2, 0), (2, 1)]), told)

    def test_columns_that_only_a_later_one_brings_together(self):
        told = patches(Card(["ffww", "ffww", "ffww"], [(1, 0), (1, 1)]))
        self.assertEqual(told[2:4], [("f", [(0, 0), (0, 1)]), ("w", [(0, 2), (0, 3), (1, 2), (1, 3), (2, 2), (2, 3)])])
        self.assertEqual(told[4:], [("f", [(1, 0), (1, 1), (2, 0), (2, 1)])])

    def test_numbered_in_the_order_of_first_cells(self):
        for card in mixed_cards(60):
            told = patches(card)
            firsts = [cells[0] for kind, cells in told[2:]]
            self.assertEqual(firsts, sorted(firsts))
            self.assertEqual([kind for kind, cells in told[:2]], ["w", "f"])

    def test_each_cell_is_in_one_patch_of_its_kind(self):
        for card in mixed_cards(60):
            told = patches(card)
            cells = [cell for kind, cells in told for cell in cells]
            self.assertEqual(sorted(cells), [(k, at) for k in range(len(card)) for at in range(card.cells())])
            for kind, cells in told:
                self.assertEqual(cells, sorted(cells))
                self.assertEqual({card.stair(column)[at] for column, at in cells} - {kind}, set())

    def test_by_spreading(self):
        for cards in (some_cards(), mixed_cards(60), great_cards()):
            for card in cards:
                self.assertEqual(patches(card), patches_by_spreading(card), card)

    def test_kinds_of_values(self):
        told = patches(Card(["ffww"]))
        self.assertIsInstance(told, list)
        for pair in told:
            self.assertIsInstance(pair, tuple)
            self.assertEqual([type(part) for part in pair], [str, list])
            self.assertEqual({type(cell) for cell in pair[1]} - {tuple}, set())


class PatchOf(unittest.TestCase):
    def test_every_cell(self):
        for cards in (some_cards(), mixed_cards(20), list(great_cards())[:4]):
            for card in cards:
                for number, (kind, cells) in enumerate(patches(card)):
                    for column, at in cells:
                        self.assertEqual(patch_of(card, column, at), number)

    def test_no_column(self):
        card = Card(["wfwf", "wwff"], [(1, 0)])
        for column in (-1, 2, -2, 3, FAR, -FAR):
            for at in (0, 3, -1, 4, FAR):
                with self.assertRaises(NoColumn):
                    patch_of(card, column, at)

    def test_no_cell(self):
        card = Card(["wfwf", "wwff"], [(1, 0)])
        for column in (0, 1):
            for at in (-1, 4, -4, 5, FAR, -FAR):
                with self.assertRaises(NoCell):
                    patch_of(card, column, at)

    def test_the_greatest_card(self):
        card = Card(["fw" * 8] * 8)
        self.assertEqual(patch_of(card, 7, 15), patch_of(card, 0, 15))
        for column, at, error in ((8, 0, NoColumn), (8, 16, NoColumn), (7, 16, NoCell)):
            with self.assertRaises(error):
                patch_of(card, column, at)


class Told(unittest.TestCase):
    def test_names_of_arguments(self):
        self.assertEqual(str(inspect.signature(module.patches)), "(card)")
        self.assertEqual(str(inspect.signature(module.patch_of)), "(card, column, at)")

    def test_keywords(self):
        card = Card(["fw"])
        self.assertEqual(patches(card=card), patches(card))
        self.assertEqual(patch_of(at=1, column=0, card=card), 3)

    def test_told_lists_are_new_ones(self):
        card = Card(["ffww", "wwff"])
        before = repr(patches(card))
        told = patches(card)
        for kind, cells in told:
            cells.append((9, 9))
        self.assertEqual(repr(patches(card)), before)
        told.clear()
        self.assertEqual(repr(patches(card)), before)

    def test_the_handed_card_stays_as_it_was(self):
        for card in mixed_cards(20):
            before = repr(card)
            told = patches(card)
            number = patch_of(card, 0, 0)
            self.assertEqual((repr(card), patches(card), patch_of(card, 0, 0)), (before, told, number))


if __name__ == "__main__":
    unittest.main()
