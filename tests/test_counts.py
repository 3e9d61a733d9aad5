import inspect
import math
import unittest

from samples import BAD_SIZES, FAR, all_cards, all_stairs
from upleaf import counts
from upleaf.cards import Card
from upleaf.counts import card_at, card_number, how_many, stair_at, stair_number, ways
from upleaf.errors import BadNumber, BadSize, BadStair
from upleaf.stairs import plain

SMALL = [(height, depth) for height in range(1, 5) for depth in range(1, 5)]


class Ways(unittest.TestCase):
    def test_every_size(self):
        for height in range(1, 9):
            for depth in range(1, 9):
                self.assertEqual(ways(height, depth), math.comb(height + depth, height))

    def test_as_many_as_there_are_texts(self):
        for size in SMALL:
            self.assertEqual(ways(*size), len(all_stairs(*size)))

    def test_the_depth_left_out_and_none(self):
        for side in range(1, 9):
            self.assertEqual(ways(side), math.comb(2 * side, side))
            self.assertEqual(ways(side, None), math.comb(2 * side, side))
        self.assertEqual((ways(1), ways(8)), (2, 12870))

    def test_keywords(self):
        self.assertEqual(ways(height=2), 6)
        self.assertEqual(ways(depth=1, height=8), 9)
        self.assertEqual(ways(height=8, depth=None), 12870)

    def test_bad_sizes(self):
        for bad in BAD_SIZES:
            for call in ((bad,), (bad, None), (bad, 1), (1, bad), (8, bad), (bad, 8), (bad, bad)):
                with self.assertRaises(BadSize):
                    ways(*call)


class HowMany(unittest.TestCase):
    def test_every_number_of_columns(self):
        for columns in range(1, 9):
            for height, depth in SMALL + [(8, 8), (1, 8), (8, 1)]:
                self.assertEqual(how_many(columns, height, depth), math.comb(height + depth, height) ** columns)

    def test_eight_columns_of_eight_by_eight(self):
        self.assertEqual(how_many(8, 8, 8), 12870 ** 8)

    def test_the_depth_left_out_and_none(self):
        for side in range(1, 9):
            self.assertEqual(how_many(3, side), math.comb(2 * side, side) ** 3)
            self.assertEqual(how_many(3, side, None), math.comb(2 * side, side) ** 3)

    def test_keywords(self):
        self.assertEqual(how_many(height=2, columns=2), 36)
        self.assertEqual(how_many(depth=1, height=2, columns=4), 81)
        self.assertEqual(how_many(columns=1, height=2, depth=None), 6)

    def test_bad_sizes(self):
        for bad in BAD_SIZES:
            for call in ((bad, 2), (2, bad), (bad, 2, 2), (2, bad, 2), (2, 2, bad), (bad, 2, None), (2, bad, None)):
                with self.assertRaises(BadSize):
                    how_many(*call)


class StairNumbers(unittest.TestCase):
    def test_the_order_of_all_stairs(self):
        for size in SMALL:
            for number, stair in enumerate(all_stairs(*size)):
                self.assertEqual(stair_number(stair), number)
                self.assertEqual(stair_at(*size, number), stair)

    def test_words(self):
        self.assertEqual([stair_at(2, 2, k) for k in range(6)], ["ffww", "fwfw", "fwwf", "wffw", "wfwf", "wwff"])

    def test_the_first_and_the_last_one_of_each_size(self):
        for height in range(1, 9):
            for depth in range(1, 9):
                last = ways(height, depth) - 1
                self.assertEqual(stair_at(height, depth, 0), "f" * depth + "w" * height)
                self.assertEqual(stair_at(height, depth, last), plain(height, depth))
                self.assertEqual(stair_number("f" * depth + "w" * height), 0)
                self.assertEqual(stair_number(plain(height, depth)), last)

    def test_there_and_back_at_the_greatest_size(self):
        told = [stair_at(8, 8, number) for number in range(ways(8, 8))]
        self.assertEqual(told, all_stairs(8, 8))
        self.assertEqual([stair_number(stair) for stair in told], list(range(12870)))

    def test_bad_numbers(self):
        for height, depth in SMALL + [(8, 8), (1, 8), (8, 1)]:
            many = ways(height, depth)
            for number in (many, many + 1, 2 * many, -1, -many, FAR, -FAR, many * FAR):
                with self.assertRaises(BadNumber):
                    stair_at(height, depth, number)

    def test_bad_size_goes_ahead_of_bad_number(self):
        for bad in BAD_SIZES:
            for height, depth in ((bad, 2), (2, bad), (bad, bad)):
                for number in (0, 1, -1, FAR, -FAR):
                    with self.assertRaises(BadSize):
                        stair_at(height, depth, number)

    def test_keywords(self):
        self.assertEqual(stair_at(number=1, depth=2, height=1), "fwf")
        self.assertEqual(stair_number(stair="fwf"), 1)

    def test_bad_stair(self):
        for text in ("", "w", "ff", "wfx", "WF", "wf ", "wf\n", "w" * 9 + "f", "w" + "f" * 9, "w" * 20000):
            with self.assertRaises(BadStair) as caught:
                stair_number(text)
            self.assertEqual(caught.exception.at, 0)


class CardNumbers(unittest.TestCase):
    def test_the_order_of_lists(self):
        for columns, height, depth in ((1, 2, 3), (2, 1, 1), (2, 2, 2), (2, 3, 1), (3, 2, 1), (3, 2, 2), (8, 1, 1)):
            ordered = sorted(card.stairs() for card in all_cards(columns, height, depth))
            for number, stairs in enumerate(ordered):
                card = card_at(columns, height, depth, number)
                self.assertIsInstance(card, Card)
                self.assertEqual(card, Card(stairs))
                self.assertEqual(card_number(card), number)

    def test_the_first_and_the_last_one(self):
        for columns in range(1, 9):
            for height, depth in SMALL + [(8, 8), (1, 8), (8, 1)]:
                last = how_many(columns, height, depth) - 1
                first_card = Card(["f" * depth + "w" * height] * columns)
                last_card = Card([plain(height, depth)] * columns)
                self.assertEqual(card_at(columns, height, depth, 0), first_card)
                self.assertEqual(card_at(columns, height, depth, last), last_card)
                self.assertEqual((card_number(first_card), card_number(last_card)), (0, last))

    def test_eight_columns_of_eight_by_eight(self):
        many = how_many(8, 8, 8)
        for part in range(1, 100):
            number = many * part // 100
            card = card_at(8, 8, 8, number)
            self.assertEqual((len(card), card.height(), card.depth()), (8, 8, 8))
            self.assertEqual(card_number(card), number)
        self.assertEqual(card_at(8, 8, 8, 12869).stairs(), ["f" * 8 + "w" * 8] * 7 + ["w" * 8 + "f" * 8])

    def test_slits_are_left_out_of_sight(self):
        for slits in ([(1, 0)], [(0, 0), (1, 3), (2, 2)]):
            self.assertEqual(card_number(Card(["wfwf", "wwff"], slits)), 4 * 6 + 5)
        self.assertEqual(card_number(Card(["wfwf", "wwff"])), 29)
        self.assertEqual(card_at(2, 2, 2, 29).slits(), [])

    def test_bad_numbers(self):
        for columns, height, depth in ((1, 1, 1), (2, 2, 2), (3, 1, 4), (8, 8, 8)):
            many = how_many(columns, height, depth)
            for number in (many, many + 1, 2 * many, many * many, -1, -many, FAR, -FAR):
                with self.assertRaises(BadNumber):
                    card_at(columns, height, depth, number)

    def test_bad_size_goes_ahead_of_bad_number(self):
        for bad in BAD_SIZES:
            for columns, height, depth in ((bad, 2, 2), (2, bad, 2), (2, 2, bad), (bad, bad, bad)):
                for number in (0, 1, -1, FAR, -FAR):
                    with self.assertRaises(BadSize):
                        card_at(columns, height, depth, number)

    def test_keywords(self):
        self.assertEqual(card_at(number=29, depth=2, height=2, columns=2), Card(["wfwf", "wwff"]))
        self.assertEqual(card_number(card=Card(["wfwf", "wwff"])), 29)


class Told(unittest.TestCase):
    def test_names_of_arguments(self):
        expected = {
            "ways": "(height, depth=None)", "stair_number": "(stair)", "stair_at": "(height, depth, number)",
            "how_many": "(columns, height, depth=None)", "card_number": "(card)",
            "card_at": "(columns, height, depth, number)",
        }
        for name, told in expected.items():
            self.assertEqual(str(inspect.signature(getattr(counts, name))), told, name)

    def test_questions_change_nothing(self):
        card = Card(["wfwf", "wwff"], [(1, 0)])
        self.assertEqual(card_number(card), card_number(card))
        self.assertEqual(str(card), "wfwf/wwff 1.0")
        told = card_at(2, 2, 2, 29)
        told.stairs().clear()
        self.assertEqual(told, card_at(2, 2, 2, 29))

    def test_what_is_refused_changes_nothing(self):
        for ask in (lambda: stair_at(2, 2, 6), lambda: card_at(2, 2, 2, -1), lambda: ways(9)):
            for again in range(2):
                with self.assertRaises((BadNumber, BadSize)):
                    ask()
        self.assertEqual((stair_at(2, 2, 5), card_at(1, 2, 2, 0)), ("wwff", Card(["ffww"])))


if __name__ == "__main__":
    unittest.main()
