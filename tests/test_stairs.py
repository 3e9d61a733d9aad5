import inspect
import unittest

from samples import FAR, all_stairs
from upleaf import stairs
from upleaf.errors import BadSize, BadStair, NoCorner
from upleaf.stairs import corners, is_stair, plain, pushed, sides, squares, turned

NO_STAIRS = [
    "", "w", "f", "wwww", "ffff", "w" * 9 + "f", "w" + "f" * 9, "w" * 8, "f" * 8, "w" * 9 + "f" * 9,
    "wfx", "xwf", "wxf", "w f", " wf", "wf ", "WF", "wF", "wf\n", "wf/wf", "0", "wf" * 9, "wf" * 10000,
    "w" * 20000, "~",
]
SMALL = [stair for height in range(1, 5) for depth in range(1, 5) for stair in all_stairs(height, depth)]
GREAT = ["w" * 8 + "f" * 8, "f" * 8 + "w" * 8, "wf" * 8, "fw" * 8, "f" * 8 + "w", "f" + "w" * 8]


class WhichTextsAreStairs(unittest.TestCase):
    def test_stairs(self):
        for stair in SMALL + GREAT:
            self.assertIs(is_stair(stair), True, stair)

    def test_no_stairs(self):
        for text in NO_STAIRS:
            self.assertIs(is_stair(text), False, text[:20])

    def test_every_number_of_signs(self):
        for many in range(0, 11):
            for more in range(0, 11):
                fits = 1 <= many <= 8 and 1 <= more <= 8
                self.assertIs(is_stair("w" * many + "f" * more), fits)
                self.assertIs(is_stair("f" * more + "w" * many), fits)

    def test_every_other_sign(self):
        for code in range(32, 127):
            sign = chr(code)
            self.assertIs(is_stair("wf" + sign), sign in "wf", sign)

    def test_each_question_refuses_what_is_no_stair(self):
        for ask in (sides, corners, squares, turned):
            for text in NO_STAIRS:
                with self.assertRaises(BadStair) as caught:
                    ask(text)
                self.assertEqual(caught.exception.at, 0)

    def test_bad_stair_goes_ahead_of_no_corner(self):
        for text in NO_STAIRS:
            for corner in (-1, 0, 1, 2, 99, FAR, -FAR):
                with self.assertRaises(BadStair) as caught:
                    pushed(text, corner)
                self.assertEqual(caught.exception.at, 0)


class Plain(unittest.TestCase):
    def test_plain_stairs(self):
        for height in range(1, 9):
            for depth in range(1, 9):
                self.assertEqual(plain(height, depth), "w" * height + "f" * depth)

    def test_as_deep_as_high_where_no_depth_is_told(self):
        for height in range(1, 9):
            self.assertEqual(plain(height), "w" * height + "f" * height)
            self.assertEqual(plain(height, None), "w" * height + "f" * height)

    def test_keywords(self):
        self.assertEqual(plain(height=1, depth=2), "wff")
        self.assertEqual(plain(depth=1, height=3), "wwwf")
        self.assertEqual(plain(height=2, depth=None), "wwff")
        self.assertEqual(plain(height=2), "wwff")

    def test_bad_sizes(self):
        for bad in (0, 9, -1, -8, FAR, -FAR):
            for call in ((bad,), (bad, None), (bad, 3), (3, bad), (bad, bad)):
                with self.assertRaises(BadSize):
                    plain(*call)


class Shape(unittest.TestCase):
    def test_sides(self):
        self.assertEqual(sides("wfwwf"), (3, 2))
        self.assertEqual(sides("f" * 8 + "w"), (1, 8))
        self.assertIsInstance(sides("wf"), tuple)

    def test_corners(self):
        self.assertEqual(corners("wf"), [(0, 1), (0, 0), (1, 0)])
        self.assertEqual(corners("fw"), [(0, 1), (1, 1), (1, 0)])
        self.assertEqual(corners("wfwwf"), [(0, 3), (0, 2), (1, 2), (1, 1), (1, 0), (2, 0)])

    def test_corners_of_all_small_stairs(self):
        for stair in SMALL + GREAT:
            told = corners(stair)
            height, depth = sides(stair)
            self.assertIsInstance(told, list)
            self.assertEqual(len(told), len(stair) + 1)
            self.assertEqual((told[0], told[-1]), ((0, height), (depth, 0)))
            for k, cell in enumerate(stair):
                (ahead, above), (behind, below) = told[k], told[k + 1]
                self.assertEqual((behind - ahead, above - below), (0, 1) if cell == "w" else (1, 0))

    def test_squares(self):
        self.assertEqual(squares("wwff"), [])
        self.assertEqual(squares("ffww"), [(1, 1), (1, 2), (2, 1), (2, 2)])
        self.assertEqual(squares("wfwf"), [(1, 1)])
        self.assertEqual(squares("fwwf"), [(1, 1), (1, 2)])
        self.assertEqual(squares("wffw"), [(1, 1), (2, 1)])
        self.assertEqual(squares("fwfwf"), [(1, 1), (1, 2), (2, 1)])

    def test_squares_of_all_small_stairs(self):
        for stair in SMALL + GREAT:
            height, depth = sides(stair)
            walls = [stair[:k].count("f") for k in range(len(stair)) if stair[k] == "w"]
            expected = [
                (forward, up) for forward in range(1, depth + 1) for up in range(1, height + 1)
                if walls[height - up] >= forward
            ]
            self.assertEqual(squares(stair), expected)


class Turned(unittest.TestCase):
    def test_turned(self):
        self.assertEqual(turned("wf"), "wf")
        self.assertEqual(turned("fw"), "fw")
        self.assertEqual(turned("wwf"), "wff")
        self.assertEqual(turned("wfwwf"), "wffwf")
        self.assertEqual(turned("w" * 8 + "f"), "w" + "f" * 8)

    def test_turned_twice_is_as_it_was(self):
        for stair in SMALL + GREAT:
            self.assertEqual(turned(turned(stair)), stair)

    def test_turned_exchanges_height_and_depth_and_the_squares_sides(self):
        for stair in SMALL + GREAT:
            self.assertEqual(sides(turned(stair)), sides(stair)[::-1])
            self.assertEqual(squares(turned(stair)), sorted((up, forward) for forward, up in squares(stair)))


class Pushed(unittest.TestCase):
    def test_pushed(self):
        self.assertEqual(pushed("wf", 1), "fw")
        self.assertEqual(pushed("fw", 1), "wf")
        self.assertEqual(pushed("wwff", 2), "wfwf")
        self.assertEqual(pushed("wfwf", 3), "wffw")

    def test_no_corner_at_the_ends_and_beyond(self):
        for stair in SMALL + GREAT:
            for corner in (0, len(stair), len(stair) + 1, -1, -2, -len(stair), 99, FAR, -FAR):
                with self.assertRaises(NoCorner):
                    pushed(stair, corner)

    def test_at_each_corner(self):
        for stair in SMALL + GREAT:
            for corner in range(1, len(stair)):
                if stair[corner - 1] == stair[corner]:
                    with self.assertRaises(NoCorner):
                        pushed(stair, corner)
                    continue
                signs = list(stair)
                signs[corner - 1], signs[corner] = signs[corner], signs[corner - 1]
                self.assertEqual(pushed(stair, corner), "".join(signs))

    def test_one_square_more_or_less(self):
        for stair in SMALL:
            for corner in range(1, len(stair)):
                if stair[corner - 1] != stair[corner]:
                    changed = set(squares(stair)) ^ set(squares(pushed(stair, corner)))
                    self.assertEqual(len(changed), 1)
                    more = len(squares(pushed(stair, corner))) - len(squares(stair))
                    self.assertEqual(more, 1 if stair[corner - 1] == "w" else -1)

    def test_pushed_twice_is_as_it_was(self):
        self.assertEqual(pushed(pushed("wwfff", 2), 2), "wwfff")


class Told(unittest.TestCase):
    def test_names_of_arguments(self):
        expected = {
            "is_stair": "(stair)", "sides": "(stair)", "plain": "(height, depth=None)", "corners": "(stair)",
            "squares": "(stair)", "turned": "(stair)", "pushed": "(stair, corner)",
        }
        for name, told in expected.items():
            self.assertEqual(str(inspect.signature(getattr(stairs, name))), told, name)

    def test_keywords(self):
        self.assertIs(is_stair(stair="wf"), True)
        self.assertEqual(sides(stair="wf"), (1, 1))
        self.assertEqual(corners(stair="wf"), [(0, 1), (0, 0), (1, 0)])
        self.assertEqual(squares(stair="fw"), [(1, 1)])
        self.assertEqual(turned(stair="wwf"), "wff")
        self.assertEqual(pushed(corner=1, stair="wf"), "fw")

    def test_each_list_is_a_new_one(self):
        for ask in (corners, squares):
            first = ask("fwfw")
            before = list(first)
            first.clear()
            self.assertEqual(ask("fwfw"), before)

    def test_pairs_are_tuples(self):
        for ask in (corners, squares):
            self.assertEqual({type(pair) for pair in ask("fwfw")}, {tuple})


if __name__ == "__main__":
    unittest.main()
