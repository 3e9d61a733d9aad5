import inspect
import itertools
import random
import unittest

from samples import all_cards, mixed_card, mixed_stair
from upleaf import pushes
from upleaf.cards import Card
from upleaf.errors import Unlike
from upleaf.pushes import apart, shared, together, way
from upleaf.stairs import plain, squares

ALL = (apart, shared, together, way)


def squares_of(card):
    """All squares of the card, each with its column."""
    return {(column, square) for column, stair in enumerate(card.stairs()) for square in squares(stair)}


def walked(card, steps):
    for column, corner in steps:
        card = card.pushed(column, corner)
    return card


def pairs_of_all_sizes():
    """Two cards of each number of columns, height and depth, with slits in some."""
    chance = random.Random(5)
    for columns, height, depth in itertools.product(range(1, 9), repeat=3):
        yield [mixed_card(chance, columns, height, depth, chance.choice((0, 0.3))) for k in range(2)]


def pairs_of_small_ones():
    for size in ((1, 1, 1), (1, 2, 2), (1, 3, 2), (2, 1, 2), (2, 2, 1)):
        yield from itertools.product(all_cards(*size), repeat=2)


def all_pairs():
    yield from pairs_of_all_sizes()
    yield from pairs_of_small_ones()


class Apart(unittest.TestCase):
    def test_apart(self):
        self.assertEqual(apart(Card(["wwff"]), Card(["wfwf"])), 1)
        self.assertEqual(apart(Card(["wwff"]), Card(["ffww"])), 4)
        self.assertEqual(apart(Card(["wffw"]), Card(["fwwf"])), 2)
        self.assertEqual(apart(Card(["wwff", "ffww"]), Card(["wfwf", "fwfw"])), 2)

    def test_the_farthest(self):
        self.assertEqual(apart(Card([plain(8)] * 8), Card(["f" * 8 + "w" * 8] * 8)), 512)
        self.assertEqual(apart(Card(["w" + "f" * 8]), Card(["f" * 8 + "w"])), 8)
        self.assertEqual(apart(Card(["w" * 8 + "f"]), Card(["f" + "w" * 8])), 8)

    def test_a_card_and_itself(self):
        for card, other in pairs_of_all_sizes():
            self.assertEqual(apart(card, card), 0)

    def test_slits_do_not_matter(self):
        slit = Card(["ffww", "ffww"], [(1, 0), (1, 3)])
        self.assertEqual(apart(slit, Card(["ffww", "ffww"])), 0)
        self.assertEqual(apart(Card(["ffww", "ffww"]), slit), 0)
        self.assertEqual(apart(Card(["ffww", "ffww"], [(1, 1)]), slit), 0)

    def test_squares_behind_just_one(self):
        for one, other in all_pairs():
            self.assertEqual(apart(one, other), len(squares_of(one) ^ squares_of(other)))
            self.assertEqual(apart(other, one), apart(one, other))

    def test_columns_are_compared_with_their_own_ones(self):
        self.assertEqual(apart(Card(["wf", "fw"]), Card(["fw", "wf"])), 2)


class SharedAndTogether(unittest.TestCase):
    def test_shared(self):
        self.assertEqual(shared(Card(["wffw", "ffww"]), Card(["fwwf", "wfwf"])), Card(["wfwf", "wfwf"]))

    def test_together(self):
        self.assertEqual(together(Card(["wffw", "ffww"]), Card(["fwwf", "wfwf"])), Card(["fwfw", "ffww"]))

    def test_by_squares_in_either_order(self):
        for one, other in all_pairs():
            for left, right in ((one, other), (other, one)):
                both, either = shared(left, right), together(left, right)
                self.assertEqual(squares_of(both), squares_of(one) & squares_of(other))
                self.assertEqual(squares_of(either), squares_of(one) | squares_of(other))
                for card in (both, either):
                    self.assertIsInstance(card, Card)
                    self.assertEqual((len(card), card.height(), card.depth()), (len(one), one.height(), one.depth()))

    def test_neither_has_slits(self):
        one = Card(["ffww", "ffww"], [(1, 0), (1, 3)])
        for other in (one, Card(["ffww", "ffww"]), Card(["ffww", "ffww"], [(1, 0)])):
            for ask in (shared, together):
                self.assertEqual(ask(one, other), Card(["ffww", "ffww"]))
                self.assertEqual(ask(other, one), Card(["ffww", "ffww"]))
        for one, other in pairs_of_all_sizes():
            self.assertEqual(shared(one, other).slits(), [])
            self.assertEqual(together(one, other).slits(), [])


class Way(unittest.TestCase):
    def test_way(self):
        self.assertEqual(way(Card(["wwff"]), Card(["wfwf"])), [(0, 2)])
        self.assertEqual(way(Card(["wf", "fw", "wf"]), Card(["wf", "fw", "fw"])), [(2, 1)])
        self.assertEqual(way(Card(["fww"]), Card(["wwf"])), [(0, 1), (0, 2)])

    def test_it_leads_there_by_as_many_pushes_as_they_are_apart(self):
        for one, other in all_pairs():
            for start, end in ((one, other), (other, one)):
                steps = way(start, end)
                self.assertEqual(len(steps), apart(one, other))
                self.assertEqual(walked(start, steps).stairs(), end.stairs())

    def test_there_is_none_with_fewer(self):
        goal = Card(["wfwf", "fwwf"])
        for card in all_cards(2, 2, 2):
            for column, corner in itertools.product(range(2), range(1, 4)):
                if card.stair(column)[corner - 1] != card.stair(column)[corner]:
                    self.assertEqual(abs(apart(card.pushed(column, corner), goal) - apart(card, goal)), 1)

    def test_some_squares_of_a_column_go_and_others_come(self):
        one, other = Card(["wwfffwwf", "wf" * 4]), Card(["fwwwwfff", "wf" * 4])
        self.assertTrue(squares_of(one) - squares_of(other))
        self.assertTrue(squares_of(other) - squares_of(one))
        for start, end in ((one, other), (other, one)):
            steps = way(start, end)
            self.assertEqual(len(steps), 6)
            self.assertEqual({column for column, corner in steps}, {0})
            self.assertEqual(walked(start, steps), end)

    def test_the_longest(self):
        one, other = Card([plain(8)] * 8), Card(["f" * 8 + "w" * 8] * 8)
        self.assertEqual(len(way(one, other)), 512)
        self.assertEqual(walked(one, way(one, other)), other)
        self.assertEqual(walked(other, way(other, one)), one)

    def test_none_between_equal_stairs(self):
        self.assertEqual(way(Card(["ffww", "ffww"], [(1, 0)]), Card(["ffww", "ffww"], [(1, 3)])), [])
        for card, other in pairs_of_all_sizes():
            self.assertEqual(way(card, card), [])

    def test_pairs_are_tuples(self):
        told = way(Card(["wwff"]), Card(["ffww"]))
        self.assertIsInstance(told, list)
        self.assertEqual({type(step) for step in told}, {tuple})


class UnlikeCards(unittest.TestCase):
    def refused(self, one, other):
        for ask in ALL:
            for left, right in ((one, other), (other, one)):
                with self.assertRaises(Unlike):
                    ask(left, right)

    def test_columns(self):
        self.refused(Card(["wf"]), Card(["wf", "wf"]))
        self.refused(Card(["wf"] * 7), Card(["wf"] * 8))

    def test_height(self):
        self.refused(Card(["wf"]), Card(["wwf"]))

    def test_depth(self):
        self.refused(Card(["wf"]), Card(["wff"]))

    def test_height_and_depth_exchanged(self):
        self.refused(Card(["wwf"]), Card(["wff"]))
        self.refused(Card(["wfwff"]), Card(["wfwfw"]))

    def test_all_sizes(self):
        chance = random.Random(6)
        sizes = list(itertools.product((1, 2, 8), repeat=3))
        cards = [Card([mixed_stair(chance, high, deep) for k in range(wide)]) for wide, high, deep in sizes]
        for one, other in itertools.combinations(cards, 2):
            self.refused(one, other)


class Told(unittest.TestCase):
    def test_names_of_arguments(self):
        for ask in ALL:
            self.assertEqual(str(inspect.signature(ask)), "(one, other)")
            self.assertIs(getattr(pushes, ask.__name__), ask)

    def test_keywords(self):
        one, other = Card(["wf"]), Card(["fw"])
        self.assertEqual(apart(other=other, one=one), 1)
        self.assertEqual(shared(other=other, one=one), one)
        self.assertEqual(together(other=other, one=one), other)
        self.assertEqual(way(other=other, one=one), [(0, 1)])

    def test_the_handed_cards_stay_as_they_were(self):
        for one, other in pairs_of_all_sizes():
            before = repr((one, other))
            for ask in ALL:
                told = ask(one, other)
                self.assertEqual(repr((one, other)), before)
                self.assertEqual(ask(one, other), told)

    def test_a_told_way_is_a_new_list(self):
        one, other = Card(["wwff"]), Card(["wfwf"])
        way(one, other).append((0, 0))
        self.assertEqual(way(one, other), [(0, 2)])


if __name__ == "__main__":
    unittest.main()
