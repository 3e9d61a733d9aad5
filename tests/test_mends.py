import inspect
import itertools
import unittest

from samples import FAR, great_cards, mixed_cards
from upleaf import mends
from upleaf.cards import Card
from upleaf.errors import TooMany
from upleaf.mends import least_glue, tied
from upleaf.motion import freedom, stiff
from upleaf.notes import read_card
from upleaf.sheet import joined_edges


def glued(card, slits):
    for edge, at in slits:
        card = card.glued(edge, at)
    return card


def enough(card):
    """All lists of slits that, glued, leave the card stiff, the shortest first and then in the order of lists."""
    slits = card.slits()
    lists = [list(some) for many in range(len(slits) + 1) for some in itertools.combinations(slits, many)]
    return sorted((some for some in lists if stiff(glued(card, some))), key=lambda some: (len(some), some))


class LeastGlue(unittest.TestCase):
    def test_a_stiff_card(self):
        for text in ("wf", "wfwf", "wf 1.1", "wwff 0.0 0.1 0.2 0.3", "wfwf/wwff 1.0", "fwfw/ffww"):
            self.assertEqual(least_glue(read_card(text)), [], text)

    def test_one_slit(self):
        self.assertEqual(least_glue(read_card("fwwf/fwfw 1.0 1.1")), [(1, 1)])
        self.assertEqual(least_glue(read_card("fwwf/fwfw 1.1")), [(1, 1)])

    def test_two_slits(self):
        self.assertEqual(least_glue(read_card("fwfw/ffww 1.0 1.3")), [(1, 0), (1, 3)])

    def test_three_slits(self):
        self.assertEqual(least_glue(read_card("fwffw/fffww/fwffw 1.0 1.4 2.4")), [(1, 0), (1, 4), (2, 4)])

    def test_the_first_of_several(self):
        cases = {
            "wfwfww/wffwww 1.0 1.4 1.5 2.0": ([(1, 4)], 2),
            "ffwffw/ffffww 1.0 1.1 1.5": ([(1, 0), (1, 5)], 2),
            "fwfw/ffww/fwfw/ffww 1.0 2.0 2.3 3.0 3.3": ([(1, 0), (2, 0), (2, 3)], 4),
        }
        for text, (expected, many) in cases.items():
            card = read_card(text)
            self.assertEqual(least_glue(card), expected)
            self.assertEqual(len([some for some in enough(card) if len(some) == len(expected)]), many)

    def test_none_does(self):
        for text in ("fwfw", "fwfwf 0.4", "fwfw/fwfw 1.0 1.1 1.2 1.3"):
            self.assertIsNone(least_glue(read_card(text)), text)

    def test_by_all_lists(self):
        seen = set()
        for card in mixed_cards(300, most_columns=4, longest=3):
            if len(card.slits()) <= 6:
                some = enough(card)
                self.assertEqual(least_glue(card), some[0] if some else None, card)
                seen.add(len(some[0]) if some else None)
        self.assertLessEqual({0, 1, None}, seen)

    def test_six_slits_and_seven(self):
        edge = [(0, at) for at in range(4)]
        six = Card(["wwff"] * 2, edge + [(1, 0), (1, 1)])
        self.assertEqual(least_glue(six), [])
        six = Card(["fwfw"] * 3, [(1, at) for at in range(4)] + [(2, 0), (2, 1)])
        self.assertIsNone(least_glue(six))
        for card in (Card(["wwff"] * 2, edge + [(1, 0), (1, 1), (1, 2)]), six.slit(2, 2), six.slit(2, 2).slit(2, 3)):
            with self.assertRaises(TooMany):
                least_glue(card)

    def test_of_a_great_card(self):
        whole = Card(["w" * 4 + "wf" * 4 + "f" * 4] * 8)
        card = Card(whole.stairs(), joined_edges(whole)[::20][:6])
        some = least_glue(card)
        expected = enough(card)
        self.assertEqual(some, expected[0] if expected else None)
        with self.assertRaises(TooMany):
            least_glue(Card(["wf" * 8] * 8, [(4, at) for at in range(16)]))

    def test_kinds_of_values(self):
        told = least_glue(read_card("fwfw/ffww 1.0 1.3"))
        self.assertIsInstance(told, list)
        self.assertEqual({type(pair) for pair in told}, {tuple})


class Tied(unittest.TestCase):
    def test_tied(self):
        self.assertEqual(tied(read_card("fwwf/fwfw")), [(1, 1)])
        self.assertEqual(tied(read_card("wf")), [])

    def test_the_limit(self):
        card = read_card("fwfwf/fwffw 1.0 1.1")
        everything = joined_edges(card)
        self.assertIn((1, 2), everything)
        self.assertGreater(len(everything), 1)
        for limit in (1, 2, 3):
            self.assertEqual(tied(card, limit), [(1, 2)])
            self.assertEqual(tied(card, limit=limit), [(1, 2)])
        self.assertEqual(tied(card), tied(card, 1))
        for limit in (4, 5, 100, FAR):
            self.assertEqual(tied(card, limit), [])
        for limit in (0, -1, -2, -FAR):
            self.assertEqual(tied(card, limit), everything)

    def test_what_is_left_out_is_one(self):
        card = read_card("fwfw/fwfw 1.0 1.2 1.3")
        self.assertEqual((tied(card), tied(card, 2), tied(card, 3)), ([(1, 1)], [(1, 1)], []))
        whole = read_card("fwwf/fwfw")
        self.assertEqual((tied(whole), tied(whole, 2)), ([(1, 1)], []))

    def test_by_each_joined_edge(self):
        for card in mixed_cards(40, most_columns=4, longest=4):
            grown = {(edge, at): freedom(card.slit(edge, at)) - freedom(card) for edge, at in joined_edges(card)}
            for limit in (-1, 0, 1, 2, 3):
                self.assertEqual(tied(card, limit), [pair for pair in sorted(grown) if grown[pair] >= limit])

    def test_of_great_cards(self):
        cards = list(great_cards())
        self.assertEqual(len(tied(cards[1])), 42)
        self.assertEqual(tied(cards[0]), [])

    def test_slits_are_not_told(self):
        self.assertEqual(tied(read_card("fwwf/fwfw 1.1"), 0), [(0, 3), (1, 0)])

    def test_kinds_of_values(self):
        told = tied(read_card("fwwf/fwfw"))
        self.assertIsInstance(told, list)
        self.assertEqual({type(pair) for pair in told}, {tuple})


class Told(unittest.TestCase):
    def test_names_of_arguments(self):
        self.assertEqual(str(inspect.signature(mends.least_glue)), "(card)")
        self.assertEqual(str(inspect.signature(mends.tied)), "(card, limit=1)")

    def test_keywords(self):
        card = read_card("fwwf/fwfw")
        self.assertEqual(least_glue(card=card), [])
        self.assertEqual(tied(limit=1, card=card), [(1, 1)])

    def test_questions_change_nothing(self):
        card = read_card("fwfw/ffww 1.0 1.3")
        for ask in (least_glue, tied, lambda told: tied(told, 0)):
            before = repr(ask(card))
            ask(card).append(99)
            self.assertEqual(repr(ask(card)), before)
            self.assertEqual(str(card), "fwfw/ffww 1.0 1.3")


if __name__ == "__main__":
    unittest.main()
