import inspect
import itertools
import unittest

from samples import all_cards, all_together, some_cards
from upleaf import sheet
from upleaf.cards import Card
from upleaf.errors import BadDrawing
from upleaf.sheet import creases, cut_edges, drawing, joined_edges, read_drawing
from upleaf.stairs import plain

DOC_CARD = Card(["wfwf", "wwff"], [(1, 0)])
DOC_DRAWING = ["2 2", "--", ".|.", "v-", "||.", "^v", "||.", "v-", "...", "--"]
PLAIN_DRAWING = ["1 1", "-", "..", "v", "..", "-"]


def slit_cards():
    """Cards of several sizes without slits, with every other slit and with all of them."""
    for card in some_cards():
        slits = all_together(card.stairs())
        for chosen in ([], slits[::2], slits):
            yield Card(card.stairs(), chosen)


def every_small_card():
    """Each card of one or two columns, up to two high and deep, with each choice of at most four slits."""
    for columns, height, depth in itertools.product((1, 2), repeat=3):
        for card in all_cards(columns, height, depth):
            slits = all_together(card.stairs())
            for many in range(5):
                for chosen in itertools.combinations(slits, many):
                    yield Card(card.stairs(), list(chosen))


def changed(rows, at, row):
    return rows[:at] + [row] + rows[at + 1:]


class Edges(unittest.TestCase):
    def test_without_slits(self):
        card = Card(["wfwf", "wwff"])
        self.assertEqual(joined_edges(card), [(0, 0), (0, 3), (1, 0), (1, 3), (2, 0), (2, 1), (2, 2), (2, 3)])
        self.assertEqual(cut_edges(card), [(0, 1), (0, 2), (1, 1), (1, 2)])

    def test_slits_are_cut(self):
        self.assertEqual(joined_edges(DOC_CARD), [(0, 0), (0, 3), (1, 3), (2, 0), (2, 1), (2, 2), (2, 3)])
        self.assertEqual(cut_edges(DOC_CARD), [(0, 1), (0, 2), (1, 0), (1, 1), (1, 2)])

    def test_all_joined_and_none(self):
        self.assertEqual(cut_edges(Card(["wwff"] * 8)), [])
        self.assertEqual(joined_edges(Card(["ffww"])), [])
        self.assertEqual(cut_edges(Card(["fw"])), [(0, 0), (0, 1), (1, 0), (1, 1)])
        self.assertEqual(joined_edges(Card(["wf"], [(0, 0), (0, 1), (1, 0), (1, 1)])), [])

    def test_one_kind_at_another_place_is_cut(self):
        self.assertIn((1, 4), cut_edges(Card(["wffffw", "wffwff"])))

    def test_by_what_falls_together(self):
        for card in slit_cards():
            every = [(edge, at) for edge in range(len(card) + 1) for at in range(card.cells())]
            joined = [pair for pair in all_together(card.stairs()) if pair not in card.slits()]
            self.assertEqual(joined_edges(card), joined)
            self.assertEqual(cut_edges(card), [pair for pair in every if pair not in joined])

    def test_pairs_are_tuples(self):
        self.assertEqual({type(pair) for pair in joined_edges(DOC_CARD) + cut_edges(DOC_CARD)}, {tuple})


class Creases(unittest.TestCase):
    def test_creases(self):
        told = [(0, 1, True), (0, 2, False), (0, 3, True), (1, 2, True)]
        self.assertEqual(creases(Card(["wfwf", "wwff"])), told)
        self.assertEqual(creases(DOC_CARD), told)

    def test_at_the_first_and_the_last_corner(self):
        self.assertEqual(creases(Card(["fw"])), [(0, 0, True), (0, 1, False), (0, 2, True)])
        self.assertEqual(creases(Card(["wf"])), [(0, 1, True)])
        self.assertEqual(creases(Card(["wffw"])), [(0, 1, True), (0, 3, False), (0, 4, True)])
        self.assertEqual(creases(Card(["fwwf"])), [(0, 0, True), (0, 1, False), (0, 3, True)])

    def test_by_the_cells_beside(self):
        for card in some_cards():
            expected = []
            for column, stair in enumerate(card.stairs()):
                for corner in range(len(stair) + 1):
                    ahead = stair[corner - 1] if corner > 0 else "w"
                    behind = stair[corner] if corner < len(stair) else "f"
                    if ahead != behind:
                        expected.append((column, corner, ahead == "w"))
            self.assertEqual(creases(card), expected)
            self.assertTrue(all(type(goes_in) is bool for column, corner, goes_in in creases(card)))
            self.assertEqual({type(crease) for crease in creases(card)}, {tuple})


class Drawn(unittest.TestCase):
    def test_drawing(self):
        self.assertEqual(drawing(DOC_CARD), DOC_DRAWING)
        self.assertEqual(drawing(Card(["wf"])), PLAIN_DRAWING)
        self.assertEqual(drawing(Card(["fw"])), ["1 1", "v", "||", "^", "||", "v"])
        self.assertEqual(drawing(Card(["wwf"])), ["2 1", "-", "..", "-", "..", "v", "..", "-"])

    def test_told_and_read_again(self):
        for card in slit_cards():
            self.assertEqual(read_drawing(drawing(card)), card)

    def test_each_row_by_the_creases_and_the_edges(self):
        for card in slit_cards():
            rows = drawing(card)
            self.assertEqual(len(rows), 2 * card.cells() + 2)
            self.assertEqual(rows[0], f"{card.height()} {card.depth()}")
            signs = {(column, corner): "v" if goes_in else "^" for column, corner, goes_in in creases(card)}
            joined = joined_edges(card)
            for corner, row in enumerate(rows[1::2]):
                self.assertEqual(row, "".join(signs.get((column, corner), "-") for column in range(len(card))))
            for at, row in enumerate(rows[2::2]):
                self.assertEqual(row, "".join(".|"[(edge, at) not in joined] for edge in range(len(card) + 1)))

    def test_every_size_is_read(self):
        for height in range(1, 9):
            for depth in range(1, 9):
                for columns in (1, 8):
                    for stair in (plain(height, depth), "f" * depth + "w" * height):
                        card = Card([stair] * columns)
                        self.assertEqual(read_drawing(drawing(card)), card)

    def test_slits_are_read(self):
        self.assertEqual(read_drawing(DOC_DRAWING).slits(), [(1, 0)])
        self.assertEqual(read_drawing(["1 1", "-", "||", "v", "|.", "-"]), Card(["wf"], [(0, 0), (0, 1), (1, 0)]))
        self.assertEqual(read_drawing(["1 1", "v", "||", "^", "||", "v"]), Card(["fw"]))


class Refused(unittest.TestCase):
    def refused(self, rows, row):
        before = list(rows)
        with self.assertRaises(BadDrawing) as caught:
            read_drawing(rows)
        self.assertEqual(caught.exception.row, row, rows)
        self.assertEqual(rows, before)

    def test_no_rows_at_all(self):
        self.refused([], 0)

    def test_row_0(self):
        wrong = [
            "", " ", "1", "1 ", " 1", "11", "1  1", " 1 1", "1 1 ", "1 1\n", "\n1 1", "1\n1", "1,1", "1 1 1", "a b",
            "x 1", "1 x", "0 1", "1 0", "9 1", "1 9", "10 1", "1 10", "12 1", "1 12", "01 1", "1 01", "-1 1",
            "1 -1", "+1 1", "1 +1", "1.1", "--", "wf", "1 1" * 6000,
        ]
        for row in wrong:
            self.refused(changed(PLAIN_DRAWING, 0, row), 0)
            self.refused([row], 0)
        for row in ("0 2", "2 0", "9 2", "2 9", "02 2", "2 02", "22", "2  2"):
            self.refused(changed(DOC_DRAWING, 0, row), 0)

    def test_row_1_of_none_and_of_too_many_signs(self):
        self.refused(["1 1"], 1)
        for many in (0, 9, 10, 20000):
            rows = ["1 1", "-" * many, "." * (many + 1), "v" * many, "." * (many + 1), "-" * many]
            self.refused(rows, 1)
            self.refused(rows[:2], 1)
        for many in range(1, 9):
            rows = ["1 1", "-" * many, "." * (many + 1), "v" * many, "." * (many + 1), "-" * many]
            self.assertEqual(read_drawing(rows), Card(["wf"] * many))

    def test_rows_shorter_and_longer(self):
        for at in range(2, len(DOC_DRAWING)):
            row = DOC_DRAWING[at]
            for wrong in ("", row[:-1], row[1:], row + row[-1], row + "-", row + ".", row + " ", row + "\n", row * 2):
                self.refused(changed(DOC_DRAWING, at, wrong), at)

    def test_row_1_is_the_measure_of_the_others(self):
        self.refused(changed(DOC_DRAWING, 1, "-"), 2)
        self.refused(changed(DOC_DRAWING, 1, "---"), 2)

    def test_other_signs(self):
        for rows in (DOC_DRAWING, PLAIN_DRAWING):
            for at in range(1, len(rows)):
                for place in range(len(rows[at])):
                    for code in [10] + list(range(32, 127)):
                        if chr(code) not in "v^-.|":
                            row = rows[at][:place] + chr(code) + rows[at][place + 1:]
                            self.refused(changed(rows, at, row), at)

    def test_signs_of_the_other_kind_of_row(self):
        for at in range(1, len(DOC_DRAWING)):
            for sign in ".|" if at in range(1, 11, 2) else "v^-":
                self.refused(changed(DOC_DRAWING, at, sign + DOC_DRAWING[at][1:]), at)

    def test_a_crease_in_behind_a_floor_cell(self):
        self.refused(["2 2", "v", "||", "v", "||", "^", "||", "-", "||", "v"], 3)
        self.refused(["1 2", "-", "..", "v", "..", "v", "..", "-"], 5)
        self.refused(["1 1", "-", "..", "v", "..", "v"], 5)

    def test_a_crease_out_behind_a_wall_cell(self):
        self.refused(["1 1", "^", "||", "^", "||", "v"], 1)
        self.refused(["2 1", "-", "..", "^", "..", "v", "..", "-"], 3)
        self.refused(["1 1", "v", "||", "^", "||", "^"], 5)

    def test_more_wall_cells_than_row_0_tells(self):
        self.refused(["1 1", "-", "..", "-", "..", "v"], 3)
        self.refused(["1 2", "v", "||", "^", "||", "-", "||", "v"], 5)
        self.refused(["2 2", "--", "...", "--", "...", "-v", "...", "v-", "...", "--"], 5)
        self.refused(["8 1", "-"] + ["..", "-"] * 8 + ["..", "v"], 17)

    def test_more_floor_cells_than_row_0_tells(self):
        self.refused(["1 1", "v", "||", "-", "||", "-"], 3)
        self.refused(["2 1", "-", "..", "v", "||", "-", "||", "^"], 5)
        self.refused(["1 2", "-v", ".||", "v-", ".||", "--", ".||", "-v"], 5)

    def test_the_row_of_creases_goes_ahead_of_that_of_edges(self):
        self.refused(["1 1", "-", "..", "-", "wrong", "v"], 3)
        self.refused(["1 1", "-", "..", "-"], 3)

    def test_the_paper_behind_the_last_corner(self):
        self.refused(["1 1", "v", "||", "^", "||", "-"], 5)
        self.refused(["1 1", "-", "..", "v", "..", "^"], 5)
        self.refused(["1 1", "v-", "||.", "^v", "||.", "--"], 5)
        self.refused(["8 8", "v"] + ["||", "-"] * 7 + ["||", "^"] + ["||", "-"] * 8, 33)

    def test_joined_where_cells_do_not_fall_together(self):
        for at in range(2, len(DOC_DRAWING), 2):
            for edge in range(3):
                row = DOC_DRAWING[at][:edge] + "." + DOC_DRAWING[at][edge + 1:]
                if (edge, at // 2 - 1) in all_together(DOC_CARD.stairs()):
                    self.assertTrue(read_drawing(changed(DOC_DRAWING, at, row)).joined(edge, at // 2 - 1))
                else:
                    self.refused(changed(DOC_DRAWING, at, row), at)

    def test_one_kind_at_another_place_is_not_joined(self):
        rows = drawing(Card(["wffffw", "wffwff"]))
        self.assertEqual(rows[10], "||.")
        self.refused(changed(rows, 10, "|.."), 10)

    def test_a_row_that_lacks(self):
        for rows in (DOC_DRAWING, PLAIN_DRAWING):
            for many in range(len(rows)):
                self.refused(rows[:many], many)

    def test_a_row_too_many(self):
        for rows in (DOC_DRAWING, PLAIN_DRAWING):
            for more in ([""], ["--"], ["..."], ["-"], [".."], rows, ["x"] * 180):
                self.refused(rows + more, len(rows))

    def test_the_first_of_several_is_told(self):
        for first in range(len(DOC_DRAWING)):
            for second in range(first + 1, len(DOC_DRAWING)):
                rows = changed(changed(DOC_DRAWING, first, "x"), second, "y")
                self.refused(rows, first)
                self.refused(rows + ["z"], first)
                self.refused(rows[:second], first)

    def test_every_change_of_a_row(self):
        # What is right so far can always go on, so the first wrong row is where no drawing goes on so.
        begun = {()}
        tried = []
        for card in every_small_card():
            rows = drawing(card)
            begun |= {tuple(rows[:many]) for many in range(1, len(rows) + 1)}
            if len(card) == 2 and len(card.slits()) < 2:
                tried.append(rows)
        for rows in tried:
            for at in range(2, len(rows)):
                signs = ".|" if at in range(2, 12, 2) else "v^-"
                for row in itertools.product(signs, repeat=len(rows[at])):
                    self.compare(changed(rows, at, "".join(row)), begun)
                self.compare(rows[:at] + rows[at + 1:], begun)
                self.compare(rows[:at] + rows[at:at + 1] + rows[at:], begun)

    def compare(self, rows, begun):
        wrong = 0
        while wrong < len(rows) and tuple(rows[:wrong + 1]) in begun:
            wrong += 1
        if wrong == len(rows) == 2 * (int(rows[0][0]) + int(rows[0][2])) + 2:
            self.assertEqual(drawing(read_drawing(rows)), rows)
        else:
            self.refused(rows, wrong)


class Told(unittest.TestCase):
    def test_names_of_arguments(self):
        expected = {
            "joined_edges": "(card)", "cut_edges": "(card)", "creases": "(card)", "drawing": "(card)",
            "read_drawing": "(rows)",
        }
        for name, told in expected.items():
            self.assertEqual(str(inspect.signature(getattr(sheet, name))), told, name)

    def test_keywords(self):
        card = Card(["wf"])
        self.assertEqual(joined_edges(card=card), [(0, 0), (0, 1), (1, 0), (1, 1)])
        self.assertEqual(cut_edges(card=card), [])
        self.assertEqual(creases(card=card), [(0, 1, True)])
        self.assertEqual(drawing(card=card), PLAIN_DRAWING)
        self.assertEqual(read_drawing(rows=PLAIN_DRAWING), card)

    def test_handed_rows_stay_as_they_were_and_are_not_kept(self):
        rows = list(DOC_DRAWING)
        card = read_drawing(rows)
        self.assertEqual(rows, DOC_DRAWING)
        rows[2] = "..."
        rows.pop()
        self.assertEqual(card, DOC_CARD)
        self.assertEqual(drawing(card), DOC_DRAWING)

    def test_told_lists_are_new_ones(self):
        card = Card(["wfwf", "wwff"], [(1, 0)])
        for ask in (joined_edges, cut_edges, creases, drawing):
            before = repr(ask(card))
            told = ask(card)
            self.assertIsInstance(told, list)
            told.clear()
            self.assertEqual(repr(ask(card)), before)
            self.assertEqual(repr(card), "Card(['wfwf', 'wwff'], [(1, 0)])")

    def test_what_is_refused_changes_nothing(self):
        for again in range(2):
            with self.assertRaises(BadDrawing) as caught:
                read_drawing(DOC_DRAWING[:-1])
            self.assertEqual(caught.exception.row, 9)
        self.assertEqual(read_drawing(DOC_DRAWING), DOC_CARD)


if __name__ == "__main__":
    unittest.main()
