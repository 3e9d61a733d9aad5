import inspect
import unittest

from samples import BAD_SIZES, FAR, some_cards
from upleaf import views
from upleaf.cards import Card
from upleaf.errors import BadSize, BadView
from upleaf.stairs import plain, squares
from upleaf.views import above, from_above, from_front, front, lit, reaching


def forward_of_wall(stair, up):
    """How far forward the wall cell from `up` to `up` - 1 stands, which is the number of squares behind it."""
    return len([square for square in squares(stair) if square[1] == up])


def height_of_floor(stair, forward):
    """How far up the floor cell from `forward` - 1 to `forward` lies."""
    return len([square for square in squares(stair) if square[0] == forward])


class Seen(unittest.TestCase):
    def test_front(self):
        self.assertEqual(front(Card(["wfwf", "wwff"])), [[0, 0], [1, 0]])
        self.assertEqual(front(Card(["fwfwf", "wfffw"])), [[1, 0], [2, 3]])
        self.assertEqual(front(Card(["fw"])), [[1]])
        self.assertEqual(front(Card(["wfff"])), [[0]])
        self.assertEqual(front(Card(["fwwwf"] * 2)), [[1, 1]] * 3)

    def test_above(self):
        self.assertEqual(above(Card(["wfwf", "wwff"])), [[0, 0], [1, 0]])
        self.assertEqual(above(Card(["fwwf", "wwff"])), [[0, 0], [2, 0]])
        self.assertEqual(above(Card(["fwfwf", "wfffw"])), [[0, 1], [1, 1], [2, 1]])
        self.assertEqual(above(Card(["wwwf"])), [[0]])

    def test_front_and_above_by_the_squares(self):
        for card in some_cards():
            stairs = card.stairs()
            by_front = [[forward_of_wall(stair, up) for stair in stairs] for up in range(card.height(), 0, -1)]
            by_above = [[height_of_floor(stair, far) for stair in stairs] for far in range(card.depth(), 0, -1)]
            self.assertEqual(front(card), by_front)
            self.assertEqual(above(card), by_above)

    def test_the_card_turned(self):
        for card in some_cards():
            self.assertEqual(above(card), front(card.turned()))
            self.assertEqual(front(card), above(card.turned()))

    def test_slits_are_not_seen(self):
        slit = Card(["wfwf", "wwff"], [(1, 0), (2, 3)])
        self.assertEqual(front(slit), front(Card(slit.stairs())))
        self.assertEqual(above(slit), above(Card(slit.stairs())))

    def test_there_and_back(self):
        for card in some_cards():
            self.assertEqual(from_front(front(card), card.depth()), card)
            self.assertEqual(from_above(above(card), card.height()), card)

    def test_back_and_there(self):
        for rows in ([[0]], [[1]], [[0, 2], [1, 2], [1, 3]], [[3, 3, 0]], [[0] * 8] * 8, [[3] * 8] * 8):
            self.assertEqual(front(from_front(rows, 3)), rows)
            self.assertEqual(above(from_above(rows, 3)), rows)
            self.assertEqual((from_front(rows, 3).height(), from_front(rows, 3).depth()), (len(rows), 3))
            self.assertEqual((from_above(rows, 3).height(), from_above(rows, 3).depth()), (3, len(rows)))

    def test_told_cards_have_no_slits(self):
        self.assertEqual(from_front([[0, 0], [1, 0]], 2), Card(["wfwf", "wwff"]))
        self.assertEqual(from_front([[0, 0], [1, 0]], 2).slits(), [])
        self.assertEqual(from_above([[0, 0], [2, 0]], 2), Card(["fwwf", "wwff"]))


class Refused(unittest.TestCase):
    def refused(self, rows, other, row):
        before = repr(rows)
        for ask in (from_front, from_above):
            with self.assertRaises(BadView) as caught:
                ask(rows, other)
            self.assertEqual(caught.exception.row, row)
        self.assertEqual(repr(rows), before)

    def bad_size(self, rows, other):
        for ask in (from_front, from_above):
            with self.assertRaises(BadSize):
                ask(rows, other)

    def test_numbers_of_rows(self):
        for many in (0, 9, 10, 200):
            self.bad_size([[0]] * many, 1)
        for many in range(1, 9):
            self.assertEqual(from_front([[0]] * many, 1).height(), many)

    def test_the_other_size(self):
        for bad in BAD_SIZES:
            self.bad_size([[0]], bad)
        for good in range(1, 9):
            self.assertEqual(from_front([[0]], good).depth(), good)
            self.assertEqual(from_above([[0]], good).height(), good)

    def test_how_many_numbers_the_first_row_has(self):
        for many in (0, 9, 10, 200):
            self.bad_size([[0] * many], 1)
            self.bad_size([[0] * many, [0]], 1)
        for many in range(1, 9):
            self.assertEqual(len(from_front([[0] * many], 1)), many)

    def test_bad_size_goes_ahead_of_bad_view(self):
        self.bad_size([[-1]] * 9, 2)
        self.bad_size([[-1]], 0)
        self.bad_size([[-1]], 9)
        self.bad_size([[5]], -1)
        self.bad_size([[-1] * 9], 2)
        self.bad_size([[], [-1]], 2)

    def test_rows_of_another_length(self):
        for wrong in ([], [0], [0, 0, 0], [0] * 9, [0] * 200):
            self.refused([[0, 0], wrong], 2, 1)
            self.refused([[0, 0], [0, 0], [0, 0], wrong], 2, 3)
            self.refused([[0, 0], [0, 0], wrong, [0, 0]], 2, 2)

    def test_numbers_below_nought(self):
        for wrong in (-1, -2, -FAR):
            self.refused([[wrong]], 2, 0)
            self.refused([[0, wrong]], 2, 0)
            self.refused([[0, 0], [0, 0], [wrong, 0]], 2, 2)

    def test_numbers_beyond_the_other_size(self):
        for wrong in (3, 4, 8, FAR):
            self.refused([[wrong]], 2, 0)
            self.refused([[0, wrong]], 2, 0)
            self.refused([[0, 0], [1, wrong], [2, 2]], 2, 1)
        self.refused([[9]], 8, 0)
        self.assertEqual(from_front([[8]], 8), Card(["f" * 8 + "w"]))

    def test_numbers_less_than_the_one_above(self):
        self.refused([[1], [0]], 2, 1)
        self.refused([[0, 2], [1, 1]], 2, 1)
        self.refused([[0, 1], [2, 1], [2, 2], [1, 2]], 2, 3)

    def test_the_first_wrong_row_is_told(self):
        self.refused([[0, 0], [0, -1], [0]], 2, 1)
        self.refused([[0, 0], [0], [0, -1]], 2, 1)
        self.refused([[3, 0], [0], [0, -1]], 2, 0)
        self.refused([[0, 1], [0, 0], [0, 3]], 2, 1)

    def test_the_same_list_several_times(self):
        row = [0, 2]
        rows = [row, row, row]
        self.assertEqual(from_front(rows, 2), Card(["wwwff", "ffwww"]))
        self.assertEqual((row, rows), ([0, 2], [[0, 2]] * 3))
        low = [1, 2]
        self.refused([low, low, [0, 2], low], 2, 2)


class Lit(unittest.TestCase):
    def test_lit(self):
        card = Card(["fwwf", "wffw", "ffww", "wwff"])
        self.assertEqual(lit(card), [2, 1, 2, 0])
        self.assertEqual(lit(card, 0), [2, 1, 2, 0])
        self.assertEqual(lit(card, 1), [1, 0, 2, 0])
        self.assertEqual(lit(card, 2), [0, 0, 0, 0])

    def test_beyond_below_nought_and_far(self):
        card = Card(["fwwf", "wffw", "ffww", "wwff"])
        for sun in (-1, -2, -FAR):
            self.assertEqual(lit(card, sun), lit(card, 0))
        for sun in (3, 8, 9, FAR):
            self.assertEqual(lit(card, sun), [0, 0, 0, 0])

    def test_keyword(self):
        card = Card(["fwwf", "wffw"])
        self.assertEqual(lit(sun=1, card=card), [1, 0])
        self.assertEqual(lit(card=card), [2, 1])

    def test_lit_by_the_squares(self):
        for card in some_cards():
            stairs = [plain(card.height(), card.depth())] + card.stairs()
            for sun in range(-1, card.height() + 2):
                expected = []
                for left, own in zip(stairs, stairs[1:]):
                    more = set(squares(own)) - set(squares(left))
                    expected.append(len([square for square in more if square[1] > sun]))
                self.assertEqual(lit(card, sun), expected)

    def test_only_the_left_shades(self):
        self.assertEqual(lit(Card(["wf", "fw"])), [0, 1])
        self.assertEqual(lit(Card(["fw", "wf"])), [1, 0])
        self.assertEqual(lit(Card(["fw", "fw"])), [1, 0])


class Reaching(unittest.TestCase):
    def test_left_out_it_is_eight(self):
        card = Card(["w" * 2 + "f" * 8, "wffffffffw", "wfffffffwf", "ffffffffww"])
        self.assertEqual(reaching(card), [1, 3])
        self.assertEqual(reaching(Card(["ffww"] * 3)), [])

    def test_each_number(self):
        card = Card(["wwff", "wfwf", "wffw", "fwwf", "ffww"])
        self.assertEqual(reaching(card, 0), [0, 1, 2, 3, 4])
        self.assertEqual(reaching(card, 1), [1, 2, 3, 4])
        self.assertEqual(reaching(card, 2), [2, 4])
        self.assertEqual(reaching(card, 3), [])

    def test_below_nought_and_far(self):
        card = Card(["wwff", "ffww"])
        for least in (-1, -8, -FAR):
            self.assertEqual(reaching(card, least), [0, 1])
        for least in (9, FAR):
            self.assertEqual(reaching(card, least), [])

    def test_keyword(self):
        self.assertEqual(reaching(least=2, card=Card(["wwff", "ffww"])), [1])
        self.assertEqual(reaching(card=Card(["ffffffffw"])), [0])

    def test_reaching_by_the_front(self):
        for card in some_cards():
            for least in range(-1, card.depth() + 2):
                seen = [column for column in range(len(card)) if any(row[column] >= least for row in front(card))]
                self.assertEqual(reaching(card, least), seen)


class Told(unittest.TestCase):
    def test_names_of_arguments(self):
        expected = {
            "front": "(card)", "above": "(card)", "from_front": "(rows, depth)", "from_above": "(rows, height)",
            "lit": "(card, sun=0)", "reaching": "(card, least=8)",
        }
        for name, told in expected.items():
            self.assertEqual(str(inspect.signature(getattr(views, name))), told, name)

    def test_keywords(self):
        self.assertEqual(front(card=Card(["wf"])), [[0]])
        self.assertEqual(above(card=Card(["wf"])), [[0]])
        self.assertEqual(from_front(depth=2, rows=[[0]]), Card(["wff"]))
        self.assertEqual(from_above(height=2, rows=[[0]]), Card(["wwf"]))

    def test_handed_lists_stay_as_they_were_and_are_not_kept(self):
        for ask in (from_front, from_above):
            rows = [[0, 1], [1, 2]]
            inner = list(rows)
            card = ask(rows, 2)
            self.assertEqual(rows, [[0, 1], [1, 2]])
            self.assertTrue(all(row is other for row, other in zip(rows, inner)))
            before = str(card)
            rows[0][0] = 1
            rows.pop()
            self.assertEqual(str(card), before)

    def test_told_lists_are_new_ones(self):
        card = Card(["fwfw", "wwff", "wwff"], [(2, 0)])
        for ask in (front, above, lit, lambda card: reaching(card, 0)):
            before = repr(ask(card))
            told = ask(card)
            for row in told:
                if isinstance(row, list):
                    row.append(99)
            self.assertEqual(repr(ask(card)), before)
            told.clear()
            self.assertEqual(repr(ask(card)), before)
            self.assertEqual(str(card), "fwfw/wwff/wwff 2.0")

    def test_rows_are_lists_of_their_own(self):
        for rows in (front(Card(["fwww"])), above(Card(["wfff"]))):
            self.assertEqual({type(row) for row in rows}, {list})
            rows[0].append(99)
            self.assertEqual([len(row) for row in rows], [2, 1, 1])


if __name__ == "__main__":
    unittest.main()
