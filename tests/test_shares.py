"""[19] fractions and shares; [20] so many dealt to weights; [2] and [3] as far as they reach them."""

import inspect
import random
import unittest
from fractions import Fraction
from math import gcd

from crosshall import shares as shares_file
from crosshall.errors import NoWhole
from crosshall.shares import dealt, fraction, shares
from helper import random_grid, refused

GREAT = 10 ** 60 - 1
WAYS = ("rows", "columns", "all")


class Fractions(unittest.TestCase):
    def told(self, top, bottom):
        told = fraction(top, bottom)
        self.assertIs(type(told), tuple)
        self.assertEqual([type(number) for number in told], [int, int])
        self.assertGreaterEqual(told[1], 1)
        self.assertEqual(gcd(*told), 1)
        self.assertEqual(told[0] * bottom, top * told[1])
        return told

    def test_lowest_terms(self):
        for top, bottom, right in [
            (1, 2, (1, 2)), (2, 4, (1, 2)), (6, 4, (3, 2)), (4, 6, (2, 3)), (12, 18, (2, 3)), (5, 7, (5, 7)),
            (7, 7, (1, 1)), (21, 7, (3, 1)), (7, 21, (1, 3)), (9, 1, (9, 1)), (1, 1, (1, 1)), (8, 9, (8, 9)),
        ]:
            self.assertEqual(self.told(top, bottom), right)

    def test_a_top_of_nought(self):
        for bottom in (1, 2, 9, GREAT):
            self.assertEqual(self.told(0, bottom), (0, 1))

    def test_a_top_below_nought(self):
        for top, bottom, right in [
            (-1, 2, (-1, 2)), (-2, 4, (-1, 2)), (-6, 4, (-3, 2)), (-7, 7, (-1, 1)), (-21, 7, (-3, 1)),
            (-9, 1, (-9, 1)), (-5, 7, (-5, 7)),
        ]:
            self.assertEqual(self.told(top, bottom), right)

    def test_great_numbers(self):
        self.assertEqual(self.told(GREAT, GREAT), (1, 1))
        self.assertEqual(self.told(-GREAT, GREAT), (-1, 1))
        self.assertEqual(self.told(GREAT, 1), (GREAT, 1))
        self.assertEqual(self.told(GREAT, 9), (GREAT // 9, 1))
        self.assertEqual(self.told(10 ** 59, 2 * 10 ** 59), (1, 2))
        self.assertEqual(self.told(GREAT, GREAT - 1), (GREAT, GREAT - 1))
        self.assertEqual(self.told(1, GREAT), (1, GREAT))

    def test_beside_fractions(self):
        chance = random.Random(19)
        for turn in range(500):
            most = chance.choice([10, 100, 10 ** 30, GREAT])
            top, bottom = chance.randrange(-most, most + 1), chance.randrange(1, most + 1)
            right = Fraction(top, bottom)
            self.assertEqual(self.told(top, bottom), (right.numerator, right.denominator))


def wholes(grid, way):
    """What each number is divided by, by the words of [19]."""
    sums = {}
    for row, numbers in enumerate(grid):
        for column, number in enumerate(numbers):
            key = {"rows": row, "columns": column, "all": None}[way]
            sums.setdefault(key, []).append((row, column, number))
    return sums


class Shares(unittest.TestCase):
    def told(self, grid, way):
        """The shares, held against the words of [19] and against [3]: they come to one."""
        told = shares(grid, way)
        self.assertIs(type(told), list)
        self.assertEqual([len(row) for row in told], [len(row) for row in grid])
        self.assertTrue(all(type(row) is list for row in told))
        for boxes in wholes(grid, way).values():
            whole = sum(number for row, column, number in boxes)
            here = [told[row][column] for row, column, number in boxes]
            if whole == 0:
                self.assertEqual(here, [None] * len(boxes))
                continue
            right = [Fraction(number, whole) for row, column, number in boxes]
            self.assertEqual(here, [(one.numerator, one.denominator) for one in right])
            self.assertTrue(all(type(one) is tuple for one in here))
            self.assertEqual(sum(Fraction(*one) for one in here), 1)
        return told

    def test_by_rows(self):
        self.assertEqual(self.told([[1, 3], [2, 2]], "rows"), [[(1, 4), (3, 4)], [(1, 2), (1, 2)]])
        self.assertEqual(self.told([[5], [9]], "rows"), [[(1, 1)], [(1, 1)]])

    def test_by_columns(self):
        self.assertEqual(self.told([[1, 3], [2, 2]], "columns"), [[(1, 3), (3, 5)], [(2, 3), (2, 5)]])
        self.assertEqual(self.told([[5, 9]], "columns"), [[(1, 1), (1, 1)]])

    def test_by_all(self):
        self.assertEqual(self.told([[1, 3], [2, 2]], "all"), [[(1, 8), (3, 8)], [(1, 4), (1, 4)]])
        self.assertEqual(self.told([[7]], "all"), [[(1, 1)]])

    def test_no_rows(self):
        for way in WAYS:
            self.assertEqual(self.told([], way), [])

    def test_rows_without_numbers(self):
        for way in WAYS:
            self.assertEqual(self.told([[]], way), [[]])
            self.assertEqual(self.told([[], [], []], way), [[], [], []])

    def test_a_row_of_noughts(self):
        grid = [[0, 0], [1, 2]]
        self.assertEqual(self.told(grid, "rows"), [[None, None], [(1, 3), (2, 3)]])
        self.assertEqual(self.told(grid, "columns"), [[(0, 1), (0, 1)], [(1, 1), (1, 1)]])
        self.assertEqual(self.told(grid, "all"), [[(0, 1), (0, 1)], [(1, 3), (2, 3)]])

    def test_a_column_of_noughts(self):
        grid = [[0, 1], [0, 2]]
        self.assertEqual(self.told(grid, "rows"), [[(0, 1), (1, 1)], [(0, 1), (1, 1)]])
        self.assertEqual(self.told(grid, "columns"), [[None, (1, 3)], [None, (2, 3)]])
        self.assertEqual(self.told(grid, "all"), [[(0, 1), (1, 3)], [(0, 1), (2, 3)]])

    def test_all_of_noughts(self):
        for way in WAYS:
            self.assertEqual(self.told([[0, 0, 0], [0, 0, 0]], way), [[None] * 3] * 2)
            self.assertEqual(self.told([[0]], way), [[None]])

    def test_great_numbers(self):
        for way in WAYS:
            self.told([[GREAT, 1], [GREAT, GREAT], [0, 10 ** 59]], way)
        self.assertEqual(self.told([[GREAT, GREAT]], "rows"), [[(1, 2), (1, 2)]])

    def test_forty_by_forty(self):
        chance = random.Random(40)
        for most in (1, GREAT):
            grid = [[chance.randrange(most + 1) for column in range(40)] for row in range(40)]
            for way in WAYS:
                self.told(grid, way)

    def test_many_grids(self):
        chance = random.Random(41)
        for turn in range(150):
            grid = random_grid(chance, chance.randrange(1, 7), chance.randrange(1, 7), chance.choice([1, 5, GREAT]))
            for way in WAYS:
                self.told(grid, way)


class Dealt(unittest.TestCase):
    def told(self, weights, many):
        told = dealt(weights, many)
        self.assertIs(type(told), list)
        self.assertEqual([type(number) for number in told], [int] * len(weights))
        self.assertEqual(sum(told), many)
        return told

    def test_rests_that_are_unlike(self):
        # Dues 0.8, 1.6, 2.4, 3.2: one each to those with .8 and .6.
        self.assertEqual(self.told([1, 2, 3, 4], 8), [1, 2, 2, 3])
        self.assertEqual(self.told([4, 3, 2, 1], 8), [3, 2, 2, 1])
        self.assertEqual(self.told([1, 2, 3, 4], 9), [1, 2, 3, 3])
        self.assertEqual(self.told([1, 5], 4), [1, 3])
        self.assertEqual(self.told([1, 5], 2), [0, 2])

    def test_rests_that_are_alike(self):
        self.assertEqual(self.told([1, 1, 1], 1), [1, 0, 0])
        self.assertEqual(self.told([1, 1, 1], 2), [1, 1, 0])
        self.assertEqual(self.told([1, 1, 1], 4), [2, 1, 1])
        self.assertEqual(self.told([1, 4, 1, 4], 1), [0, 1, 0, 0])
        self.assertEqual(self.told([5, 1], 3), [3, 0])
        self.assertEqual(self.told([1, 5], 3), [1, 2])
        self.assertEqual(self.told([3, 1, 3, 1], 4), [2, 1, 1, 0])
        self.assertEqual(self.told([1, 3, 1, 3], 4), [1, 2, 0, 1])

    def test_alike_behind_a_greater_one(self):
        # Dues 5/8, 5/8, 30/8: the last has the greatest rest, the first two are alike.
        self.assertEqual(self.told([1, 1, 6], 5), [1, 0, 4])
        self.assertEqual(self.told([1, 1, 6], 6), [1, 1, 4])

    def test_dues_that_are_whole(self):
        self.assertEqual(self.told([2, 4, 6], 6), [1, 2, 3])
        self.assertEqual(self.told([2, 4, 6], 18), [3, 6, 9])
        self.assertEqual(self.told([5], 7), [7])
        self.assertEqual(self.told([1], 0), [0])

    def test_none_to_deal(self):
        self.assertEqual(self.told([1, 2, 3], 0), [0, 0, 0])

    def test_all_that_the_weights_come_to(self):
        for weights in ([3, 1, 2], [0, 7, 0, 1], [GREAT, GREAT, 1]):
            self.assertEqual(self.told(weights, sum(weights)), weights)

    def test_weights_of_nought_among_others(self):
        self.assertEqual(self.told([0, 1, 0, 1, 0], 3), [0, 2, 0, 1, 0])
        self.assertEqual(self.told([0, 0, 5], 4), [0, 0, 4])
        # Those of nought have no rest, so they come behind all that have one.
        self.assertEqual(self.told([0, 1, 1, 1], 2), [0, 1, 1, 0])

    def test_great_numbers(self):
        self.assertEqual(self.told([GREAT, GREAT], GREAT), [GREAT // 2 + 1, GREAT // 2])
        self.assertEqual(self.told([1, GREAT], 1), [0, 1])
        self.assertEqual(self.told([1, 1, 1], GREAT), [GREAT // 3] * 3)
        self.assertEqual(self.told([1, 1, 1], GREAT - 1), [GREAT // 3, GREAT // 3, GREAT // 3 - 1])
        self.assertEqual(self.told([1] * 300, GREAT)[0], GREAT // 300 + 1)

    def test_beside_a_plain_reckoning(self):
        chance = random.Random(20)
        for turn in range(600):
            most = chance.choice([2, 9, 50, GREAT])
            weights = [chance.randrange(most + 1) for at in range(chance.randrange(1, 12))]
            weights[chance.randrange(len(weights))] += 1
            many = chance.choice([0, 1, 7, chance.randrange(most * 3), GREAT])
            dues = [Fraction(many * weight, sum(weights)) for weight in weights]
            right = [int(due) for due in dues]
            rests = [(int(due) - due, at) for at, due in enumerate(dues)]
            for rest, at in sorted(rests)[:many - sum(right)]:
                right[at] += 1
            self.assertEqual(self.told(weights, many), right)

    def test_weights_that_come_to_nought(self):
        for weights in ([], [0], [0, 0, 0], [0] * 300):
            for many in (0, 1, 7, GREAT):
                refused(self, NoWhole, dealt, weights, many)


class Unchanged(unittest.TestCase):
    def test_shares(self):
        for way in WAYS:
            grid = [[1, 2], [0, 0], [3, 0]]
            told = shares(grid, way)
            self.assertEqual(grid, [[1, 2], [0, 0], [3, 0]])
            again = shares(grid, way)
            told[0][0] = "x"
            told[1].append("x")
            self.assertEqual(told[2], again[2])
            told.append("x")
            self.assertEqual(shares(grid, way), again)
            self.assertEqual(grid, [[1, 2], [0, 0], [3, 0]])
            grid[0][0] = 99
            self.assertNotEqual(again, shares(grid, way))

    def test_each_row_is_its_own(self):
        for way in WAYS:
            for grid in ([[0, 0], [0, 0]], [[1, 1], [1, 1]], [[], []]):
                told = shares(grid, way)
                told[0].append("x")
                self.assertEqual(told[1:], shares(grid, way)[1:])

    def test_rows_handed_in_twice(self):
        row = [1, 3]
        told = shares([row, row], "rows")
        told[0][0] = "x"
        self.assertEqual((row, told[1]), ([1, 3], [(1, 4), (3, 4)]))

    def test_dealt(self):
        weights = [1, 1, 1]
        told = dealt(weights, 4)
        self.assertEqual(weights, [1, 1, 1])
        told[0] = 99
        self.assertEqual((dealt(weights, 4), weights), ([2, 1, 1], [1, 1, 1]))
        whole = dealt(weights, 3)
        whole.append("x")
        self.assertEqual(weights, [1, 1, 1])

    def test_refused(self):
        weights = [0, 0]
        refused(self, NoWhole, dealt, weights, 3)
        self.assertEqual(weights, [0, 0])


class Interface(unittest.TestCase):
    def test_arguments(self):
        for name, right in [("fraction", "top bottom"), ("shares", "grid way"), ("dealt", "weights many")]:
            self.assertEqual(list(inspect.signature(getattr(shares_file, name)).parameters), right.split())


if __name__ == "__main__":
    unittest.main()
