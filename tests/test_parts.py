"""[21] whole parts that add up both ways; [2] and [3] as far as they reach them."""

import inspect
import random
import unittest
from fractions import Fraction
from math import ceil, floor

from crosshall import parts as parts_file
from crosshall.errors import NoGroups, NoWhole
from crosshall.parts import parts
from crosshall.tables import lay
from helper import random_grid, refused, sheet_of

GREAT = 10 ** 60 - 1
EIGHT_NESTED = [[0, 1, 2, 3, 4, 5, 6, 7], [0, 1, 2, 3], [4, 5, 6, 7], [0, 1], [2, 3], [4, 5], [6, 7], [6]]
EIGHT_IN_A_CHAIN = [list(range(at + 1)) for at in range(8)]
EIGHT_ALONE = [[at] for at in range(8)]
NO_GROUPS = [
    [[0]] * 9, [[0], [1], [2], [0, 1], [0, 1, 2], [0], [1], [2], [0, 1]],
    [[]], [[0, 1], []], [[], [0]],
    [[1, 0]], [[0, 2, 1]], [[0, 1], [2, 1]],
    [[0, 0]], [[0, 1, 1]], [[1, 1, 2]],
    [[3]], [[-1]], [[0, 3]], [[-1, 0]], [[0, 1, 2, 3]], [[0], [10 ** 59]], [[-(10 ** 59), 0]],
    [[0, 1], [1, 2]], [[1, 2], [0, 1]], [[0, 2], [0, 1]], [[0, 1], [2], [1, 2]], [[0, 1, 2], [0, 1], [1, 2]],
]


def random_groups(chance, places, many):
    """At most so many groups, of which any two are apart or one has all of the other's."""
    told = []
    open_to = [list(range(places))]
    for turn in range(chance.randrange(many + 1)):
        lot = chance.choice(open_to)
        group = sorted(chance.sample(lot, chance.randrange(1, len(lot) + 1)))
        if all(not set(group) & set(other) or set(group) <= set(other) or set(other) <= set(group) for other in told):
            told.append(group)
            open_to.append(group)
    chance.shuffle(told)
    return told


def lots_of(grid, row_groups, column_groups):
    """Each lot of boxes of which [21] speaks."""
    rows, columns = range(len(grid)), range(len(grid[0]))
    told = [[(row, column)] for row in rows for column in columns]
    told += [[(row, column) for row in rows for column in columns]]
    told += [[(row, column) for row in group for column in columns] for group in [[row] for row in rows] + row_groups]
    told += [[(row, column) for row in rows for column in group] for group in [[at] for at in columns] + column_groups]
    return told + [[(row, column) for row in group] for group in row_groups for column in columns]


def groups_under(table, side):
    """For each head the places of the bottom heads that begin with it, those of the shortest heads first."""
    bottom = table.bottom(side)
    told = []
    for head in sorted(table.heads(side), key=len):
        told.append([at for at, path in enumerate(bottom) if path[:len(head)] == head])
    return told


class Told(unittest.TestCase):
    def told(self, grid, many, row_groups=(), column_groups=()):
        """The parts, held against the words of [21]."""
        row_groups, column_groups = list(row_groups), list(column_groups)
        told = parts(grid, many, row_groups, column_groups)
        self.assertIs(type(told), list)
        self.assertTrue(all(type(row) is list for row in told))
        self.assertEqual([len(row) for row in told], [len(row) for row in grid])
        self.assertTrue(all(type(number) is int and number >= 0 for row in told for number in row))
        whole = sum(sum(row) for row in grid)
        for lot in lots_of(grid, row_groups, column_groups):
            due = Fraction(sum(grid[row][column] for row, column in lot) * many, whole)
            number = sum(told[row][column] for row, column in lot)
            self.assertIn(number, (floor(due), ceil(due)), (grid, many, row_groups, column_groups, lot))
        self.assertEqual(sum(sum(row) for row in told), many)
        return told


class WithoutGroups(Told):
    def test_one_box(self):
        for number in (1, 7, GREAT):
            for many in (0, 1, 5, GREAT):
                self.assertEqual(self.told([[number]], many), [[many]])

    def test_dues_that_are_whole(self):
        self.assertEqual(self.told([[1, 2], [3, 4]], 10), [[1, 2], [3, 4]])
        self.assertEqual(self.told([[1, 2], [3, 4]], 30), [[3, 6], [9, 12]])
        self.assertEqual(self.told([[2, 4], [6, 8]], 10), [[1, 2], [3, 4]])
        self.assertEqual(self.told([[0, 5], [0, 0]], 3), [[0, 3], [0, 0]])

    def test_no_parts(self):
        self.assertEqual(self.told([[1, 2], [3, 4]], 0), [[0, 0], [0, 0]])

    def test_one_part(self):
        for grid in ([[1, 2], [3, 4]], [[1, 1, 1]], [[1], [1], [1]], [[1] * 8] * 8):
            self.told(grid, 1)

    def test_one_row_or_one_column(self):
        for many in range(1, 20):
            self.told([[3, 1, 4, 1, 5, 9, 2, 6]], many)
            self.told([[3], [1], [4], [1], [5], [9], [2], [6]], many)

    def test_rows_whole_where_boxes_are_not(self):
        # Each row and each column is due just 1: only the two ways across are right.
        self.assertIn(self.told([[1, 1], [1, 1]], 2), ([[1, 0], [0, 1]], [[0, 1], [1, 0]]))
        for many in (3, 6, 9):
            told = self.told([[1, 1, 1], [1, 1, 1], [1, 1, 1]], many)
            self.assertEqual([sum(row) for row in told], [many // 3] * 3)
            self.assertEqual([sum(row[at] for row in told) for at in range(3)], [many // 3] * 3)

    def test_boxes_rounded_alone_would_not_add_up(self):
        self.told([[1, 1, 1], [1, 1, 1], [1, 1, 1]], 100)
        self.told([[33, 33, 34], [33, 34, 33], [34, 33, 33]], 100)
        self.told([[1, 2, 3], [4, 5, 6], [7, 8, 9]], 100)

    def test_rows_and_columns_of_noughts(self):
        self.told([[0, 0, 0], [1, 0, 2], [3, 0, 1]], 5)
        self.told([[0, 0], [0, 1]], 9)

    def test_great_numbers(self):
        self.told([[GREAT, GREAT], [GREAT, GREAT]], 3)
        self.told([[GREAT, 1], [2, GREAT - 7]], GREAT)
        self.told([[1, 2], [3, 1]], GREAT)
        self.told([[1, 1, 1], [1, 1, 1], [1, 1, 1]], GREAT - 1)

    def test_many_grids(self):
        chance = random.Random(21)
        for turn in range(200):
            grid = random_grid(chance, chance.randrange(1, 9), chance.randrange(1, 9), chance.choice([1, 9, GREAT]))
            grid[chance.randrange(len(grid))][chance.randrange(len(grid[0]))] += 1
            self.told(grid, chance.choice([1, 10, 100, chance.randrange(GREAT)]))


class WithGroups(Told):
    def test_groups_apart(self):
        for many in range(12):
            self.told([[1, 1], [1, 1], [1, 1], [1, 1]], many, [[0, 1], [2, 3]], [[0], [1]])
            self.told([[1, 2, 3, 4], [4, 3, 2, 1], [5, 6, 7, 8]], many, [[0, 2], [1]], [[0, 3], [1, 2]])

    def test_groups_within_one_another(self):
        for many in range(12):
            self.told([[1] * 4] * 4, many, [[0, 1, 2], [0, 1], [0]], [[1, 2, 3], [3]])
            self.told([[3, 1, 4], [1, 5, 9], [2, 6, 5]], many, [[0, 2], [0]], [[0, 1, 2], [1, 2], [2]])

    def test_a_group_of_rows_in_a_column(self):
        # All the groups of rows are due whole numbers, in each column, too: so they have just these.
        told = self.told([[1, 3], [1, 1], [3, 1], [3, 3]], 8, [[0, 1], [2, 3]])
        self.assertEqual([sum(row[0] for row in told[:2]), sum(row[1] for row in told[:2])], [1, 2])
        self.assertEqual([sum(row[0] for row in told[2:]), sum(row[1] for row in told[2:])], [3, 2])

    def test_groups_of_rows_alone_and_of_columns_alone(self):
        # Each row is due a half: only the groups keep two next to one another from getting both or none.
        grid = [[1, 1], [1, 1], [1, 1], [1, 1]]
        for groups in ([[0, 1]], [[0, 2]], [[0, 3]], [[1, 2], [0, 3]]):
            told = self.told(grid, 2, groups)
            for group in groups:
                self.assertEqual(sum(sum(told[row]) for row in group), 1)
            told = self.told([list(row) for row in zip(*grid)], 2, [], groups)
            for group in groups:
                self.assertEqual(sum(row[column] for row in told for column in group), 1)

    def test_a_group_of_all_and_of_one(self):
        for many in (0, 1, 5, 77):
            self.told([[1, 2], [3, 4]], many, [[0, 1], [0], [1]], [[1], [0, 1], [0]])

    def test_groups_alike(self):
        for many in range(9):
            self.told([[1, 2], [3, 4], [5, 6]], many, [[0, 2], [0, 2], [0, 2]], [[1], [1]])
            self.told([[1] * 3] * 3, many, [[0, 1, 2]] * 8, [[1, 2]] * 8)
            self.told([[1] * 3] * 3, many, [[1, 2], [2], [1, 2], [2]], [[0, 1], [0], [0, 1], [0]])

    def test_groups_in_any_order(self):
        chance = random.Random(22)
        nested = [[0, 1, 2, 3], [0, 1], [2, 3], [0], [3]]
        for turn in range(60):
            rows = chance.sample(nested, 5)
            columns = chance.sample(nested, 5)
            self.told(random_grid(chance, 4, 4, 5) + [[1, 0, 0, 0]], chance.randrange(20), rows, columns)

    def test_eight_by_eight_with_eight_groups_a_side(self):
        chance = random.Random(23)
        sorts = [EIGHT_NESTED, EIGHT_IN_A_CHAIN, EIGHT_ALONE, [list(range(8))] * 8]
        for rows in sorts:
            for columns in sorts:
                for most in (1, 9, GREAT):
                    grid = [[1 + chance.randrange(most) for column in range(8)] for row in range(8)]
                    self.told(grid, chance.choice([1, 31, 100, GREAT]), rows, columns)

    def test_many_grids(self):
        chance = random.Random(24)
        for turn in range(250):
            height, width = chance.randrange(1, 9), chance.randrange(1, 9)
            grid = random_grid(chance, height, width, chance.choice([1, 9, GREAT]))
            grid[chance.randrange(height)][chance.randrange(width)] += 1
            rows, columns = random_groups(chance, height, 8), random_groups(chance, width, 8)
            self.told(grid, chance.choice([1, 10, 100, chance.randrange(GREAT)]), rows, columns)

    def test_the_heads_of_a_table(self):
        # The groups are what lies under each head: so the parts add up at each head of either side.
        chance = random.Random(26)
        fields = [("town", "word"), ("kind", "word"), ("year", "number"), ("high", "number")]
        view = (("town", "year"), ("kind",), (("count",), ("sum", "high")))
        for turn in range(20):
            rows = []
            for at in range(30):
                town, year, kind = chance.choice(["oak", "ash", None]), chance.choice([1, 2]), chance.choice("abc")
                rows.append((town, kind, year, chance.randrange(1, 50)))
            table = lay(sheet_of(fields, rows), view, ("all", ()))
            row_groups = groups_under(table, "rows")
            column_groups = groups_under(table, "columns")
            for figure in (0, 1):
                told = self.told(table.grid(figure), 100, row_groups[:8], column_groups[:8])
                heads = [sum(sum(told[row]) for row in group) for group in row_groups if len(group) == len(told)]
                self.assertEqual(heads, [100])

    def test_somewhat_beyond_the_bounds(self):
        chance = random.Random(25)
        grid = [[chance.randrange(1, 9) for column in range(12)] for row in range(12)]
        self.told(grid, 100, EIGHT_NESTED, EIGHT_NESTED)
        self.told(grid, 10 ** 70, EIGHT_NESTED, EIGHT_NESTED)


class Refused(unittest.TestCase):
    def test_a_grid_of_noughts(self):
        for grid in ([[0]], [[0, 0]], [[0], [0]], [[0] * 8] * 8):
            for many in (0, 1, GREAT):
                refused(self, NoWhole, parts, grid, many, [], [])

    def test_a_grid_of_noughts_whatever_the_groups_are(self):
        grid = [[0, 0, 0], [0, 0, 0], [0, 0, 0]]
        for groups in NO_GROUPS + [[[0]], [[0, 1, 2], [1]]]:
            refused(self, NoWhole, parts, grid, 3, groups, [])
            refused(self, NoWhole, parts, grid, 3, [], groups)
            refused(self, NoWhole, parts, grid, 3, groups, groups)

    def test_groups_that_are_none(self):
        grid = [[1, 2, 3], [4, 5, 6], [7, 8, 9]]
        for groups in NO_GROUPS:
            for many in (0, 3):
                refused(self, NoGroups, parts, grid, many, groups, [])
                refused(self, NoGroups, parts, grid, many, [], groups)
                refused(self, NoGroups, parts, grid, many, [[0, 1]], groups)
                refused(self, NoGroups, parts, grid, many, groups, groups)

    def test_eight_groups_are_not_too_many(self):
        parts([[1]], 1, [[0]] * 8, [[0]] * 8)
        refused(self, NoGroups, parts, [[1]], 1, [[0]] * 9, [])
        refused(self, NoGroups, parts, [[1]], 1, [], [[0]] * 9)
        refused(self, NoGroups, parts, [[1] * 8] * 8, 1, EIGHT_ALONE + [[0, 1]], [])
        refused(self, NoGroups, parts, [[1] * 8] * 8, 1, [], EIGHT_ALONE + [[0, 1]])

    def test_each_side_has_its_own_places(self):
        wide, tall = [[1, 2, 3]], [[1], [2], [3]]
        parts(wide, 5, [[0]], [[0, 2], [2]])
        parts(tall, 5, [[0, 2], [2]], [[0]])
        for places in ([1], [2], [0, 2]):
            refused(self, NoGroups, parts, wide, 5, [places], [])
            refused(self, NoGroups, parts, tall, 5, [], [places])
        for places in ([3], [0, 3], [-1], [-3, 0]):
            for grid in (wide, tall):
                refused(self, NoGroups, parts, grid, 5, [places], [])
                refused(self, NoGroups, parts, grid, 5, [], [places])

    def test_groups_of_unlike_sides_need_not_be_nested(self):
        parts([[1, 2, 3], [4, 5, 6], [7, 8, 9]], 7, [[0, 1]], [[1, 2]])


class Unchanged(unittest.TestCase):
    def test_what_is_handed_in(self):
        grid, rows, columns = [[1, 2], [3, 4], [5, 6]], [[2], [0, 2], [1]], [[1], [0, 1]]
        told = parts(grid, 9, rows, columns)
        self.assertEqual((grid, rows, columns), ([[1, 2], [3, 4], [5, 6]], [[2], [0, 2], [1]], [[1], [0, 1]]))
        kept = [list(row) for row in told]
        grid[0][0] = 77
        rows[0].append(99)
        self.assertEqual(told, kept)

    def test_what_is_told(self):
        grid = [[1, 2], [3, 4]]
        right = [[1, 2], [3, 4]]
        told = parts(grid, 10, [], [])
        self.assertEqual(told, right)
        told[0][0] = 99
        told[1].append(99)
        told.append(99)
        self.assertEqual(parts(grid, 10, [], []), right)
        self.assertEqual(grid, right)

    def test_each_row_is_its_own(self):
        row = [1, 1]
        told = parts([row, row], 4, [], [])
        told[0][0] = 99
        self.assertEqual((told[1], row), ([1, 1], [1, 1]))

    def test_what_is_refused(self):
        grid = [[1, 2, 3], [4, 5, 6], [7, 8, 9]]
        for groups in NO_GROUPS:
            kept = [list(group) for group in groups]
            refused(self, NoGroups, parts, grid, 4, groups, groups)
            self.assertEqual(groups, kept)
        self.assertEqual(grid, [[1, 2, 3], [4, 5, 6], [7, 8, 9]])
        empty, rows, columns = [[0, 0]], [[1, 0]], [[]]
        refused(self, NoWhole, parts, empty, 4, rows, columns)
        self.assertEqual((empty, rows, columns), ([[0, 0]], [[1, 0]], [[]]))


class Interface(unittest.TestCase):
    def test_arguments(self):
        right = ["grid", "many", "row_groups", "column_groups"]
        self.assertEqual(list(inspect.signature(parts_file.parts).parameters), right)


if __name__ == "__main__":
    unittest.main()
