import unittest

from upleaf.equations import common_factor, free_beside, shortened, solution, solved


class Rows(unittest.TestCase):
    def test_common_factor(self):
        self.assertEqual(common_factor([12, -18, 30]), 6)
        self.assertEqual(common_factor([0, -5]), 5)
        self.assertEqual(common_factor([4, 9, 6]), 1)
        self.assertEqual(common_factor([]), 0)

    def test_shortened(self):
        self.assertEqual(shortened({1: 4, 2: -6}), {1: 2, 2: -3})
        self.assertEqual(shortened({1: 4, 2: -5}), {1: 4, 2: -5})

    def test_solved_by_unknowns_that_no_other_row_has(self):
        rows = [{0: 2, 1: 3, 2: 1}, {0: 4, 1: 6, 2: 2}, {}, {0: 1, 3: 5}, {1: 3, 3: 7}]
        done = solved(rows)
        self.assertEqual(len(done), 3)
        for unknown, row in done.items():
            self.assertEqual([other for other in done if unknown in done[other]], [unknown])
            self.assertNotIn(0, row.values())
        self.assertEqual(rows, [{0: 2, 1: 3, 2: 1}, {0: 4, 1: 6, 2: 2}, {}, {0: 1, 3: 5}, {1: 3, 3: 7}])

    def test_free_beside(self):
        done = solved([{0: 1, 1: -1}, {2: 3}])
        self.assertEqual(free_beside(done, 2), None)
        self.assertEqual({free_beside(done, 0), free_beside(done, 1)} & {0, 1}, {free_beside(done, 0)})
        self.assertEqual(free_beside(done, 7), 7)

    def test_solution(self):
        rows = [{0: 2, 1: 3}, {1: 5, 2: -7}, {3: 4}]
        numbers = solution(rows, 0)
        self.assertNotEqual(numbers[0], 0)
        for row in rows:
            self.assertEqual(sum(number * numbers.get(unknown, 0) for unknown, number in row.items()), 0)
        self.assertIsNone(solution(rows, 3))
        self.assertEqual(solution(rows, 9), {9: 1})


if __name__ == "__main__":
    unittest.main()
