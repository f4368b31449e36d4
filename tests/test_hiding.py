"""[23] veils; [2] and [3] as far as they reach them."""

import inspect
import itertools
import random
import unittest

from crosshall import hiding
from crosshall.errors import NoVeil
from crosshall.hiding import veil
from crosshall.veils import could_be
from helper import every_box, random_grid, refused

GREAT = 10 ** 60 - 1
NINE = [[1, 2, 3], [4, 5, 6], [7, 8, 9]]


def small_boxes(grid, few):
    return [(row, column) for row, column in every_box(grid) if 1 <= grid[row][column] <= few]


def outright(grid, hidden, boxes):
    """Which of the boxes are told outright, by low and high."""
    bounds = [(box, could_be(grid, hidden, box)) for box in boxes]
    return [box for box, told in bounds if told[0] == told[3]]


def changes_of(height, width):
    """All ways round a ring: boxes that gain and boxes that lose by turns, each row and column with one of either."""
    told = []
    for many in range(2, min(height, width) + 1):
        for rows in itertools.permutations(range(height), many):
            for columns in itertools.permutations(range(width), many):
                gains = list(zip(rows, columns))
                told.append((gains, list(zip(rows, columns[1:] + columns[:1]))))
    return told


def outright_by_rings(grid, hidden, boxes, changes):
    """Which of the boxes no ring of hidden boxes changes by one: two tables that could be differ by such rings."""
    moved = set()
    for gains, losses in changes:
        if set(gains + losses) <= hidden and all(grid[row][column] > 0 for row, column in losses):
            moved |= set(gains + losses)
    return [box for box in boxes if box not in moved]


class Told(unittest.TestCase):
    def told(self, grid, few, tell=outright):
        """The veil, held against the words of [23]."""
        told = veil(grid, few)
        self.assertIs(type(told), list)
        self.assertTrue(all(type(box) is tuple for box in told))
        self.assertEqual(told, sorted(set(told)))
        self.assertLessEqual(set(told), set(every_box(grid)))
        small = small_boxes(grid, few)
        self.assertLessEqual(set(small), set(told))
        self.assertEqual(tell(grid, told, small), [])
        for box in told:
            if box not in small:
                fewer = [other for other in told if other != box]
                self.assertNotEqual(tell(grid, fewer, small), [], (grid, few, told, box))
        return told

    def told_or_refused(self, grid, few, tell=outright):
        """The veil, or the box that the refusal bears."""
        bare = tell(grid, every_box(grid), small_boxes(grid, few))
        if not bare:
            return self.told(grid, few, tell)
        cell = refused(self, NoVeil, veil, grid, few).cell
        self.assertEqual((cell, type(cell)), (bare[0], tuple))
        return cell


class Veils(Told):
    def test_no_small_box(self):
        for grid in ([[0]], [[5]], [[0, 0], [0, 0]], [[2, 3], [9, 0]], [[GREAT]], [[7, 8, 9]]):
            self.assertEqual(self.told(grid, 1), [])
        self.assertEqual(self.told([[7, 0], [8, 9]], 6), [])

    def test_two_by_two(self):
        # One small box: the only ring there is goes through all.
        every = [(0, 0), (0, 1), (1, 0), (1, 1)]
        self.assertEqual(self.told([[1, 5], [6, 7]], 1), every)
        self.assertEqual(self.told([[1, 2], [3, 4]], 9), every)
        self.assertEqual(self.told([[1, 0], [0, 9]], 3), every)

    def test_a_ring_is_enough(self):
        told = self.told(NINE, 1)
        self.assertEqual(len(told), 4)
        self.assertIn((0, 0), told)

    def test_two_small_boxes_apart(self):
        # The ring through both is one, or there is a ring through each.
        told = self.told([[1, 9, 9], [9, 2, 9], [9, 9, 9]], 2)
        self.assertTrue({(0, 0), (1, 1)} <= set(told))
        self.assertLess(len(told), 9)

    def test_all_small(self):
        for few in (9, 10, GREAT):
            self.assertEqual(self.told(NINE, few), every_box(NINE))

    def test_few_is_the_last_small_one(self):
        grid = [[3, 9, 9], [9, 9, 9], [9, 9, 9]]
        self.assertEqual(self.told(grid, 2), [])
        self.assertIn((0, 0), self.told(grid, 3))
        self.assertIn((0, 0), self.told(grid, 4))

    def test_noughts_are_not_small(self):
        self.assertEqual(self.told([[0, 5], [6, 7]], 4), [])
        # Yet they are hidden where a small one needs them.
        self.assertEqual(self.told([[1, 0], [0, 1]], 1), [(0, 0), (0, 1), (1, 0), (1, 1)])

    def test_boxes_that_noughts_make_useless(self):
        # The last column is nought throughout: none of its boxes can ever be other, nor help another one.
        told = self.told([[1, 5, 0], [6, 7, 0], [8, 9, 0]], 1)
        self.assertEqual([column for row, column in told if column == 2], [])
        told = self.told([[1, 5, 4], [6, 7, 4], [0, 0, 0]], 1)
        self.assertEqual([row for row, column in told if row == 2], [])

    def test_few_that_is_great(self):
        self.assertEqual(self.told([[GREAT, 1], [2, GREAT]], GREAT), [(0, 0), (0, 1), (1, 0), (1, 1)])
        grid = [[GREAT, 1, GREAT], [2, GREAT, GREAT], [GREAT, GREAT, GREAT]]
        self.assertEqual(self.told(grid, GREAT), every_box(grid))
        self.told(grid, GREAT - 1)
        self.told(grid, 1)

    def test_six_by_six(self):
        chance = random.Random(26)
        for turn in range(12):
            grid = random_grid(chance, 6, 6, chance.choice([2, 5, 30, GREAT]))
            self.told_or_refused(grid, chance.choice([1, 2, 5]))
        self.told([[1] * 6] * 6, 1)
        self.told([[2] * 5 + [1]] + [[3] * 6] * 5, 1)

    def test_beside_rings(self):
        chance = random.Random(27)
        seen = []
        for height, width in [(1, 1), (1, 4), (4, 1), (2, 2), (2, 3), (3, 2), (3, 3), (3, 4), (4, 4)]:
            changes = changes_of(height, width)

            def tell(grid, hidden, boxes):
                return outright_by_rings(grid, set(hidden), boxes, changes)

            for turn in range(12):
                grid = random_grid(chance, height, width, chance.choice([1, 3, 9]))
                seen.append(type(self.told_or_refused(grid, chance.choice([1, 2, 3]), tell)))
        self.assertTrue(min(seen.count(list), seen.count(tuple)) > 20)

    def test_somewhat_beyond_the_bounds(self):
        chance = random.Random(28)
        self.told_or_refused([[chance.randrange(1, 9) for column in range(8)] for row in range(7)], 2)


class Refused(Told):
    def test_one_row_or_one_column(self):
        self.assertEqual(self.told_or_refused([[9, 2, 1]], 2), (0, 1))
        self.assertEqual(self.told_or_refused([[9], [0], [1], [1]], 2), (2, 0))
        self.assertEqual(self.told_or_refused([[1]], 1), (0, 0))

    def test_a_row_or_column_of_noughts_but_one(self):
        self.assertEqual(self.told_or_refused([[9, 0], [1, 0]], 1), (1, 0))
        self.assertEqual(self.told_or_refused([[0, 0], [9, 1]], 1), (1, 1))
        self.assertEqual(self.told_or_refused([[0, 0, 0], [0, 2, 0], [0, 0, 0]], 2), (1, 1))

    def test_the_first_by_rows_then_columns(self):
        self.assertEqual(self.told_or_refused([[0, 0, 0], [9, 1, 1], [0, 0, 0]], 1), (1, 1))
        self.assertEqual(self.told_or_refused([[0, 9, 0], [0, 1, 0], [0, 1, 0]], 1), (1, 1))
        # A box that is not small is told outright, too, ahead of it: it is not the one that is borne.
        self.assertEqual(self.told_or_refused([[7, 0], [2, 0]], 2), (1, 0))

    def test_many(self):
        chance = random.Random(29)
        seen = []
        for turn in range(150):
            grid = random_grid(chance, chance.randrange(1, 5), chance.randrange(1, 5), 2)
            seen.append(self.told_or_refused(grid, chance.choice([1, 2])))
        self.assertTrue(len({cell for cell in seen if type(cell) is tuple}) > 5)


class Unchanged(unittest.TestCase):
    def test_what_is_handed_in(self):
        grid = [[1, 5], [6, 7]]
        told = veil(grid, 1)
        self.assertEqual(grid, [[1, 5], [6, 7]])
        kept = list(told)
        grid[0][0] = 9
        self.assertEqual(told, kept)

    def test_what_is_told(self):
        for grid, few in [([[1, 5], [6, 7]], 1), ([[5]], 1), (NINE, 1), (NINE, 9)]:
            right = veil(grid, few)
            kept = list(right)
            right.append("x")
            right[0] = "y"
            self.assertEqual(veil(grid, few), kept)

    def test_what_is_refused(self):
        grid = [[9, 2, 1]]
        refused(self, NoVeil, veil, grid, 2)
        self.assertEqual(grid, [[9, 2, 1]])


class Interface(unittest.TestCase):
    def test_arguments(self):
        self.assertEqual(list(inspect.signature(hiding.veil).parameters), ["grid", "few"])


if __name__ == "__main__":
    unittest.main()
