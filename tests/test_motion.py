import inspect
import unittest
from fractions import Fraction

from samples import FAR, great_cards, mixed_cards, some_cards
from upleaf import motion
from upleaf.cards import Card
from upleaf.errors import NoPatch
from upleaf.motion import freedom, held, is_motion, is_paper, loose_patches, stiff
from upleaf.patches import patches
from upleaf.rings import rings
from upleaf.sheet import joined_edges

# Patches 3 and 5, of walls, are held; 2, 4 and 6, of floors, are loose.
PARTLY = Card(["fwfww", "fwwfw"])


def rank(rows):
    """How many of the rows aren't mixed of the others, in fractions."""
    many = 0
    rows = [[Fraction(number) for number in row] for row in rows]
    while rows and rows[0]:
        lead = next((row for row in rows if row[0]), None)
        if lead is not None:
            many += 1
            rows = [[a - row[0] / lead[0] * b for a, b in zip(row, lead)] for row in rows if row is not lead]
        rows = [row[1:] for row in rows]
    return many


def turning_table(card):
    """The rings as rows of numbers, one for each patch but the wall's and the floor's."""
    return [[dict(ring[4]).get(patch, 0) for patch in range(2, len(patches(card)))] for ring in rings(card)]


def freedom_in_fractions(card):
    return len(patches(card)) - 2 - rank(turning_table(card))


def is_held_in_fractions(card, patch):
    """Whether a row that says that the patch turns by nought is mixed of the rings."""
    table = turning_table(card)
    row = [int(own == patch) for own in range(2, len(patches(card)))]
    return patch < 2 or rank(table) == rank(table + [row])


def sums_of(card, rows):
    """What the rings of a paper come to for each patch."""
    sums = [0] * len(patches(card))
    told = rings(card)
    for ring, number in rows:
        for patch, each in told[ring][4]:
            sums[patch] += each * number
    return sums


class Holding(unittest.TestCase):
    def look_at_paper(self, card, patch, paper):
        self.assertIsInstance(paper, tuple)
        times, rows = paper
        self.assertIsInstance(rows, list)
        self.assertEqual({type(row) for row in rows} - {tuple}, set())
        self.assertGreaterEqual(times, 1)
        places = [ring for ring, number in rows]
        self.assertEqual(places, sorted(set(places)))
        self.assertTrue(all(0 <= ring < len(rings(card)) for ring in places))
        expected = [times if own == patch else 0 for own in range(len(patches(card)))]
        self.assertEqual(sums_of(card, rows)[2:], expected[2:])
        self.assertIs(is_paper(card, patch, paper), True)

    def look_at_motion(self, card, patch, turns):
        self.assertIsInstance(turns, list)
        self.assertEqual((len(turns), turns[:2]), (len(patches(card)), [0, 0]))
        self.assertNotEqual(turns[patch], 0)
        for ring in rings(card):
            self.assertEqual(sum(turns[own] * number for own, number in ring[4]), 0)
        self.assertIs(is_motion(card, turns), True)

    def look_at(self, card):
        """Papers and motions prove each other right: no patch has both."""
        loose = []
        for patch in range(len(patches(card))):
            told = held(card, patch)
            self.assertIsInstance(told, tuple)
            word, proof = told
            if word == "held":
                self.look_at_paper(card, patch, proof)
            else:
                self.assertEqual(word, "loose")
                self.look_at_motion(card, patch, proof)
                loose.append(patch)
        self.assertEqual(loose_patches(card), loose)
        self.assertIs(stiff(card), not loose)
        self.assertEqual(freedom(card) == 0, not loose)

    def test_held(self):
        self.assertEqual(held(Card(["wfwf"]), 2)[0], "held")
        self.assertEqual(held(Card(["fwfw"]), 2)[0], "loose")

    def test_partly_loose(self):
        self.assertEqual((freedom(PARTLY), loose_patches(PARTLY)), (1, [2, 4, 6]))
        self.assertEqual([held(PARTLY, patch)[0] for patch in (3, 5)], ["held", "held"])
        self.look_at(PARTLY)

    def test_times_above_one(self):
        card = Card(["ffww"])
        times, rows = held(card, 2)[1]
        self.assertEqual((times % 2, sums_of(card, rows)[2]), (0, times))
        self.look_at(card)

    def test_the_leaves_are_held(self):
        for card in (Card(["wf"]), Card(["fwfw"]), PARTLY, *great_cards()):
            for patch in (0, 1):
                word, paper = held(card, patch)
                self.assertEqual(word, "held")
                self.look_at_paper(card, patch, paper)

    def test_small_cards(self):
        for card in some_cards():
            self.look_at(card)

    def test_mixed_cards(self):
        for card in mixed_cards(60, most_columns=5, longest=5):
            self.look_at(card)

    def test_great_cards(self):
        for card in list(great_cards())[::2]:
            self.look_at(card)

    def test_by_fractions(self):
        for card in mixed_cards(30, most_columns=4, longest=4):
            for patch in range(len(patches(card))):
                self.assertEqual(held(card, patch)[0] == "held", is_held_in_fractions(card, patch))

    def test_no_patch(self):
        for card in (Card(["wf"]), Card(["fw"]), PARTLY):
            many = len(patches(card))
            for patch in (-1, -2, -many, many, many + 1, FAR, -FAR):
                with self.assertRaises(NoPatch):
                    held(card, patch)
                for paper in ((1, []), (0, [(-1, 0)])):
                    with self.assertRaises(NoPatch):
                        is_paper(card, patch, paper)


class Freedom(unittest.TestCase):
    def test_without_slits(self):
        self.assertEqual(freedom(Card(["wf"])), 0)
        self.assertEqual(freedom(Card(["wfwf"])), 0)
        self.assertEqual(freedom(Card(["fwfw"])), 2)
        self.assertEqual(freedom(Card(["fwfw", "fwfw"])), 2)
        self.assertEqual(freedom(Card(["fwfwfw"])), 4)
        self.assertEqual(freedom(Card(["fw"])), 0)

    def test_with_slits(self):
        self.assertEqual(freedom(Card(["fwfw", "fwfw"], [(1, 0)])), 2)
        self.assertEqual(freedom(Card(["fwfw", "fwfw"], [(1, 0), (1, 1), (1, 2), (1, 3)])), 4)
        self.assertEqual(freedom(Card(["wfwfwf"])), freedom(Card(["wfwfwf"], [(0, 0), (0, 5)])))

    def test_of_great_cards(self):
        self.assertEqual(freedom(Card(["fw" * 8])), 14)
        self.assertEqual(freedom(Card(["fw" * 8] * 8)), 14)
        self.assertEqual(freedom(Card(["fw" * 8] * 8, [(4, at) for at in range(16)])), 28)
        self.assertEqual(freedom(Card(["wf" * 8] * 8)), 12)
        self.assertEqual(freedom(Card(["w" * 8 + "f" * 8] * 8)), 0)

    def test_in_fractions(self):
        for cards in (some_cards(), mixed_cards(60, longest=6), list(great_cards())[::4]):
            for card in cards:
                self.assertEqual(freedom(card), freedom_in_fractions(card), card)

    def test_stiff(self):
        for card in (*some_cards(), *mixed_cards(60), *great_cards()):
            self.assertIs(stiff(card), freedom(card) == 0)
        self.assertIs(stiff(Card(["wfwf"])), True)
        self.assertIs(stiff(Card(["fwfw"])), False)

    def test_the_same_mirrored_and_turned(self):
        for card in (*mixed_cards(100), *great_cards()):
            self.assertEqual(freedom(card.mirrored()), freedom(card))
            self.assertEqual(freedom(card.turned()), freedom(card))
            self.assertEqual(freedom(card.turned().mirrored()), freedom(card))

    def test_a_slit_never_makes_it_less_and_glueing_never_more(self):
        for card in mixed_cards(25, most_columns=5, longest=4):
            own = freedom(card)
            for edge, at in joined_edges(card):
                self.assertGreaterEqual(freedom(card.slit(edge, at)), own)
            for edge, at in card.slits():
                self.assertLessEqual(freedom(card.glued(edge, at)), own)
                self.assertLessEqual(freedom(card.glued(edge)), own)


class LoosePatches(unittest.TestCase):
    def test_loose_patches(self):
        self.assertEqual(loose_patches(Card(["wfwf"])), [])
        self.assertEqual(loose_patches(Card(["fwfw"])), [2, 3, 4, 5])

    def test_rising_and_just_those(self):
        for card in mixed_cards(30, most_columns=4, longest=4):
            expected = [patch for patch in range(len(patches(card))) if not is_held_in_fractions(card, patch)]
            self.assertEqual(loose_patches(card), expected)

    def test_of_great_cards(self):
        for card in great_cards():
            told = loose_patches(card)
            self.assertEqual(told, sorted(set(told)))
            self.assertEqual(bool(told), not stiff(card))
            for patch in told[:3]:
                self.assertEqual(held(card, patch)[0], "loose")


class IsMotion(unittest.TestCase):
    def setUp(self):
        self.card = Card(["fwfw", "fwfw"])

    def told_motions(self, card):
        return [held(card, patch)[1] for patch in loose_patches(card)]

    def test_is_motion(self):
        self.assertIs(is_motion(self.card, [0, 0, 1, 0, -1, 0]), True)
        self.assertIs(is_motion(self.card, [0, 0, 1, 2, -1, -2]), True)
        self.assertIs(is_motion(self.card, [0, 0, 1, 2, -1, 2]), False)

    def test_too_short_and_too_long(self):
        for card in (self.card, PARTLY, Card(["wf"])):
            many = len(patches(card))
            for length in (0, 1, many - 1, many + 1, 200):
                self.assertIs(is_motion(card, [0] * length), False)
        self.assertIs(is_motion(self.card, [0, 0, 1, 0, -1]), False)
        self.assertIs(is_motion(self.card, [0, 0, 1, 0, -1, 0, 0]), False)

    def test_noughts(self):
        for card in (self.card, PARTLY, *mixed_cards(30), *great_cards()):
            self.assertIs(is_motion(card, [0] * len(patches(card))), True)

    def test_sums_and_multiples(self):
        for card in (self.card, PARTLY, *list(mixed_cards(25, most_columns=4, longest=4)), list(great_cards())[4]):
            told = self.told_motions(card)
            for turns, other in zip(told, told[::-1]):
                self.assertTrue(is_motion(card, [a + b for a, b in zip(turns, other)]))
                self.assertTrue(is_motion(card, [7 * a - 3 * b for a, b in zip(turns, other)]))
                for times in (-1, 2, FAR, -FAR, FAR * FAR):
                    self.assertTrue(is_motion(card, [times * number for number in turns]))

    def test_the_leaves_do_not_turn(self):
        self.assertIs(is_motion(self.card, [1, 0, 0, 1, 0, 1]), False)
        self.assertIs(is_motion(self.card, [0, 1, 1, 0, 1, 0]), False)
        self.assertIs(is_motion(self.card, [0, FAR, FAR, 0, FAR, 0]), False)
        for card in (Card(["wf"]), Card(["wfwf"]), PARTLY, *self.motionless()):
            rest = [0] * (len(patches(card)) - 2)
            for start in ([1, 0], [0, 1], [-1, 0], [0, -1], [1, 1], [FAR, 0]):
                self.assertIs(is_motion(card, start + rest), False)

    def motionless(self):
        return [card for card in mixed_cards(40) if stiff(card)]

    def test_the_leaves_count_for_rings_of_whole_motions(self):
        for card in (self.card, PARTLY):
            turns = held(card, loose_patches(card)[0])[1]
            for leaf in (0, 1):
                wrong = list(turns)
                wrong[leaf] = 1
                self.assertIs(is_motion(card, wrong), False)

    def test_bent_by_one_number(self):
        for card in (self.card, PARTLY):
            for turns in self.told_motions(card):
                for patch in range(2, len(turns)):
                    for by in (1, -1, FAR):
                        bent = list(turns)
                        bent[patch] += by
                        self.assertIs(is_motion(card, bent), False)

    def test_each_ring_counts(self):
        for card in mixed_cards(30, most_columns=4, longest=4):
            for patch in range(2, len(patches(card))):
                alone = [int(own == patch) for own in range(len(patches(card)))]
                counted = any(dict(ring[4]).get(patch) for ring in rings(card))
                self.assertIs(is_motion(card, alone), not counted)

    def test_very_great_numbers(self):
        self.assertIs(is_motion(self.card, [0, 0, FAR, -FAR, -FAR, FAR]), True)
        self.assertIs(is_motion(self.card, [0, 0, FAR, -FAR, 1 - FAR, FAR]), False)

    def test_the_handed_list_stays_as_it_was(self):
        for turns in ([0, 0, 1, 0, -1, 0], [0, 0, 1, 0, 1, 0], [1], []):
            before = list(turns)
            is_motion(self.card, turns)
            self.assertEqual(turns, before)


class IsPaper(unittest.TestCase):
    """The rings of the card: 0 says 2 of patch 3, 1 says 2 of patch 2."""

    def setUp(self):
        self.card = Card(["ffww"])

    def test_is_paper(self):
        self.assertEqual([ring[4] for ring in rings(self.card)], [[(0, -2), (3, 2)], [(1, -2), (2, 2)]])
        self.assertIs(is_paper(self.card, 2, (2, [(1, 1)])), True)
        self.assertIs(is_paper(self.card, 3, (2, [(0, 1)])), True)
        self.assertIs(is_paper(self.card, 3, (1, [(0, 1)])), False)

    def test_times_below_one(self):
        self.assertIs(is_paper(self.card, 2, (0, [])), False)
        self.assertIs(is_paper(self.card, 2, (0, [(1, 0)])), False)
        self.assertIs(is_paper(self.card, 2, (-2, [(1, -1)])), False)
        self.assertIs(is_paper(self.card, 2, (-FAR * 2, [(1, -FAR)])), False)
        for times in (0, -1, -FAR):
            self.assertIs(is_paper(self.card, 0, (times, [])), False)
            self.assertIs(is_paper(self.card, 1, (times, [])), False)

    def test_all_numbers_times_another_one(self):
        for by in (2, 3, FAR, FAR * FAR):
            self.assertIs(is_paper(self.card, 2, (2 * by, [(1, by)])), True)
            self.assertIs(is_paper(self.card, 2, (2 * by + 1, [(1, by)])), False)
        for card in mixed_cards(30, most_columns=4, longest=4):
            for patch in range(len(patches(card))):
                word, told = held(card, patch)
                if word == "held":
                    times, rows = told
                    for by in (2, FAR):
                        grown = [(ring, by * number) for ring, number in rows]
                        self.assertIs(is_paper(card, patch, (by * times, grown)), True)
                        if patch > 1:
                            self.assertIs(is_paper(card, patch, (times, grown)), False)
                            self.assertIs(is_paper(card, patch, (by * times, rows)), False)

    def test_a_row_out(self):
        for card in mixed_cards(30, most_columns=4, longest=4):
            for patch in range(2, len(patches(card))):
                word, told = held(card, patch)
                if word == "held":
                    times, rows = told
                    for out in range(len(rows)):
                        left = rows[:out] + rows[out + 1:]
                        expected = sums_of(card, left)[2:] == sums_of(card, rows)[2:]
                        self.assertIs(is_paper(card, patch, (times, left)), expected)

    def test_each_ring_once_and_rising(self):
        self.assertIs(is_paper(self.card, 2, (4, [(1, 2)])), True)
        self.assertIs(is_paper(self.card, 2, (4, [(1, 1), (1, 1)])), False)
        self.assertIs(is_paper(self.card, 2, (4, [(1, 2), (1, 0)])), False)
        self.assertIs(is_paper(self.card, 2, (2, [(0, 0), (1, 1)])), True)
        self.assertIs(is_paper(self.card, 2, (2, [(1, 1), (0, 0)])), False)
        self.assertIs(is_paper(self.card, 0, (1, [(1, 0), (0, 0)])), False)

    def test_rings_that_there_are_not(self):
        for ring in (2, 3, FAR):
            self.assertIs(is_paper(self.card, 2, (2, [(1, 1), (ring, 0)])), False)
            self.assertIs(is_paper(self.card, 0, (2, [(ring, 0)])), False)
        for ring in (-1, -2, -FAR):
            self.assertIs(is_paper(self.card, 2, (2, [(ring, 0), (1, 1)])), False)
            self.assertIs(is_paper(self.card, 2, (2, [(ring, 1)])), False)
            self.assertIs(is_paper(self.card, 1, (2, [(ring, 0)])), False)
        self.assertIs(is_paper(Card(["wf"]), 0, (1, [(0, 0)])), False)

    def test_a_number_may_be_nought(self):
        self.assertIs(is_paper(self.card, 2, (2, [(0, 0), (1, 1)])), True)
        self.assertIs(is_paper(self.card, 3, (2, [(0, 1), (1, 0)])), True)
        self.assertIs(is_paper(self.card, 0, (2, [(0, 0), (1, 0)])), True)

    def test_of_another_patch(self):
        self.assertIs(is_paper(self.card, 3, (2, [(1, 1)])), False)
        self.assertIs(is_paper(self.card, 2, (2, [(0, 1), (1, 1)])), False)
        for card in mixed_cards(20, most_columns=4, longest=4):
            for patch in range(2, len(patches(card))):
                word, told = held(card, patch)
                for other in range(len(patches(card))):
                    if word == "held" and other != patch:
                        self.assertIs(is_paper(card, other, told), False)

    def test_of_no_rows(self):
        for times in (1, 2, FAR):
            for patch, expected in enumerate((True, True, False, False)):
                self.assertIs(is_paper(self.card, patch, (times, [])), expected)

    def test_papers_of_the_leaves(self):
        card = Card(["ffww", "ffww"], [(1, 0), (1, 1), (1, 2), (1, 3)])
        self.assertEqual([ring[:4] for ring in rings(card)][0::2], [("end", 0, 4, "w"), ("end", 1, 4, "w")])
        card = Card(["wfwf"])
        for leaf in (0, 1):
            self.assertIs(is_paper(card, leaf, (5, [(0, 1), (2, 1)])), True)
            self.assertIs(is_paper(card, leaf, (1, [(0, 1), (2, 1), (3, 4), (5, 4)])), True)
            self.assertIs(is_paper(card, leaf, (1, [(0, 1)])), False)
            self.assertIs(is_paper(card, leaf, (1, [(0, 1), (3, 1)])), False)

    def test_what_comes_to_the_leaves_is_not_looked_at(self):
        self.assertNotEqual(sums_of(self.card, [(1, 1)])[1], 0)
        self.assertIs(is_paper(self.card, 2, (2, [(1, 1)])), True)

    def test_a_loose_patch_has_none(self):
        for paper in ((1, []), (1, [(0, 1)]), (1, [(0, 1), (1, 1)]), (2, [(1, 1)])):
            for patch in (2, 3, 4, 5):
                self.assertIs(is_paper(Card(["fwfw"]), patch, paper), False)

    def test_the_handed_paper_stays_as_it_was(self):
        for rows in ([(1, 1)], [(1, 1), (0, 0)], [], [(9, 9)]):
            before = list(rows)
            is_paper(self.card, 2, (2, rows))
            self.assertEqual(rows, before)


class Told(unittest.TestCase):
    def test_names_of_arguments(self):
        names = {"freedom": "(card)", "stiff": "(card)", "held": "(card, patch)", "loose_patches": "(card)"}
        names |= {"is_motion": "(card, turns)", "is_paper": "(card, patch, paper)"}
        for name, expected in names.items():
            self.assertEqual(str(inspect.signature(getattr(motion, name))), expected)

    def test_keywords(self):
        card = Card(["wf"])
        self.assertEqual((freedom(card=card), stiff(card=card), loose_patches(card=card)), (0, True, []))
        self.assertEqual(held(patch=0, card=card)[0], "held")
        self.assertTrue(is_motion(turns=[0, 0], card=card))
        self.assertTrue(is_paper(paper=(1, []), patch=0, card=card))

    def test_told_lists_are_new_ones(self):
        for card in (PARTLY, Card(["ffww"])):
            for patch in range(len(patches(card))):
                before = repr(held(card, patch))
                word, proof = held(card, patch)
                (proof[1] if word == "held" else proof).append(99)
                self.assertEqual(repr(held(card, patch)), before)
            before = repr(loose_patches(card))
            loose_patches(card).append(99)
            self.assertEqual(repr(loose_patches(card)), before)

    def test_questions_change_nothing(self):
        for card in mixed_cards(15, most_columns=4, longest=4):
            before = repr(card)
            for ask in (freedom, stiff, loose_patches, self.all_held):
                told = ask(card)
                self.assertEqual((ask(card), repr(card)), (told, before))
                self.assertEqual(ask(Card(card.stairs(), card.slits())), told)

    def all_held(self, card):
        return [held(card, patch) for patch in range(len(patches(card)))]


if __name__ == "__main__":
    unittest.main()
