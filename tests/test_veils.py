"""[22] what a hidden box could be, and which are told outright; [2] and [3] as far as they reach them."""

import inspect
import itertools
import random
import unittest

from crosshall import veils
from crosshall.errors import NoVeil
from crosshall.veils import could_be, told_outright
from helper import every_box, random_grid, refused

GREAT = 10 ** 60 - 1
NINE = [[1, 2, 3], [4, 5, 6], [7, 8, 9]]


def sums_of(grid):
    return [sum(row) for row in grid], [sum(column) for column in zip(*grid)]


def is_table(grid, hidden, table):
    """Whether it is a table that could be, by the words of [22]."""
    if type(table) is not list or not all(type(row) is list for row in table):
        return False
    if [len(row) for row in table] != [len(row) for row in grid]:
        return False
    if not all(type(number) is int and number >= 0 for row in table for number in row):
        return False
    shown = [box for box in every_box(grid) if box not in hidden]
    return sums_of(table) == sums_of(grid) and all(table[row][at] == grid[row][at] for row, at in shown)


def tables_of(grid, hidden):
    """All tables that could be: each hidden box up to the rest of its row."""
    tops = [sum(grid[row][at] for at in range(len(grid[0])) if (row, at) in hidden) for row, column in hidden]
    told = []
    for numbers in itertools.product(*[range(top + 1) for top in tops]):
        table = [list(row) for row in grid]
        for (row, column), number in zip(hidden, numbers):
            table[row][column] = number
        if sums_of(table) == sums_of(grid):
            told.append(table)
    return told


def difference(grid, hidden, ground):
    """The rests of the ground's rows less those of its columns."""
    rests = [grid[row][column] for row, column in hidden if row in ground[0]]
    return sum(rests) - sum(grid[row][column] for row, column in hidden if column in ground[1])


def is_rising(places, many):
    return type(places) is list and places == sorted(set(places)) and all(place in range(many) for place in places)


class Told(unittest.TestCase):
    def ground(self, grid, cell, ground):
        self.assertIs(type(ground), tuple)
        rows, columns = ground
        self.assertTrue(is_rising(rows, len(grid)))
        self.assertTrue(is_rising(columns, len(grid[0])))
        self.assertIn(cell[0], rows)
        self.assertNotIn(cell[1], columns)

    def told(self, grid, hidden, cell):
        """The least and the greatest, with what bears them out held against the words of [22]."""
        told = could_be(grid, hidden, cell)
        self.assertIs(type(told), tuple)
        low, one, below, high, other, above = told
        for number, table in ((low, one), (high, other)):
            self.assertIs(type(number), int)
            self.assertTrue(is_table(grid, hidden, table))
            self.assertEqual(table[cell[0]][cell[1]], number)
        self.ground(grid, cell, above)
        self.assertTrue(all(row in above[0] for row, column in hidden if column in above[1]))
        self.assertEqual(difference(grid, hidden, above), high)
        if low == 0:
            self.assertIsNone(below)
            return low, high
        self.ground(grid, cell, below)
        self.assertEqual([box for box in hidden if box[0] in below[0] and box[1] not in below[1]], [cell])
        self.assertEqual(difference(grid, hidden, below), low)
        return low, high

    def all_told(self, grid, hidden):
        """Low and high of each hidden box, in the order of the boxes handed in; and those told outright."""
        bounds = [self.told(grid, hidden, cell) for cell in hidden]
        outright = told_outright(grid, hidden)
        self.assertIs(type(outright), list)
        self.assertEqual(outright, sorted(cell for cell, (low, high) in zip(hidden, bounds) if low == high))
        self.assertTrue(all(type(box) is tuple for box in outright))
        return bounds


class CouldBe(Told):
    def test_two_by_two(self):
        hidden = [(0, 0), (0, 1), (1, 0), (1, 1)]
        self.assertEqual(self.all_told([[1, 2], [3, 4]], hidden), [(0, 3), (0, 3), (1, 4), (3, 6)])
        self.assertEqual(self.all_told([[0, 0], [0, 5]], hidden), [(0, 0), (0, 0), (0, 0), (5, 5)])
        self.assertEqual(self.all_told([[0, 5], [5, 0]], hidden), [(0, 5), (0, 5), (0, 5), (0, 5)])
        self.assertEqual(self.all_told([[1, 0], [0, 0]], hidden), [(1, 1), (0, 0), (0, 0), (0, 0)])

    def test_four_of_nine(self):
        hidden = [(0, 0), (0, 2), (2, 0), (2, 2)]
        self.assertEqual(self.all_told(NINE, hidden), [(0, 4), (0, 4), (4, 8), (8, 12)])

    def test_both_tables_where_there_are_but_two(self):
        grid, hidden = [[1, 0], [0, 1]], [(0, 0), (0, 1), (1, 0), (1, 1)]
        across = [[0, 1], [1, 0]]
        self.assertEqual(could_be(grid, hidden, (0, 0))[:5], (0, across, None, 1, grid))
        self.assertEqual(could_be(grid, hidden, (0, 1))[:5], (0, grid, None, 1, across))

    def test_grounds_that_alone_fit(self):
        hidden = [(0, 0), (0, 1), (1, 0), (1, 1)]
        # The second row's rest is 7, of which the other column takes 6 at most.
        self.assertEqual(could_be([[1, 2], [3, 4]], hidden, (1, 0))[2], ([1], [1]))
        self.assertEqual(could_be([[1, 2], [3, 4]], hidden, (0, 0))[5], ([0], []))
        # The first row's rest is 9; the column's is 4: all rows less the other column.
        self.assertEqual(could_be([[1, 8], [3, 4]], hidden, (0, 0))[5], ([0, 1], [1]))

    def test_a_ring_of_six(self):
        hidden = [(0, 0), (0, 1), (1, 1), (1, 2), (2, 2), (2, 0)]
        self.assertEqual(self.all_told(NINE, hidden), [(0, 3), (0, 3), (4, 7), (4, 7), (8, 11), (5, 8)])

    def test_two_rings_that_share_nothing(self):
        grid = [[1, 2, 9, 9], [3, 4, 9, 9], [9, 9, 0, 2], [9, 9, 3, 0]]
        hidden = [(0, 0), (0, 1), (1, 0), (1, 1), (2, 2), (2, 3), (3, 2), (3, 3)]
        right = [(0, 3), (0, 3), (1, 4), (3, 6), (0, 2), (0, 2), (1, 3), (0, 2)]
        self.assertEqual(self.all_told(grid, hidden), right)

    def test_a_box_alone_in_its_row_or_column(self):
        for cell in every_box(NINE):
            number = NINE[cell[0]][cell[1]]
            self.assertEqual(self.all_told(NINE, [cell]), [(number, number)])
        hidden = [(0, 0), (0, 1), (1, 0), (1, 1), (2, 1), (1, 2)]
        told = self.all_told(NINE, hidden)
        self.assertEqual(told[4:], [(8, 8), (6, 6)])
        self.assertEqual(told[:4], [(0, 3), (0, 3), (2, 5), (4, 7)])

    def test_all_in_one_row_or_column(self):
        self.assertEqual(self.all_told(NINE, [(1, 0), (1, 1), (1, 2)]), [(4, 4), (5, 5), (6, 6)])
        self.assertEqual(self.all_told(NINE, [(0, 2), (1, 2), (2, 2)]), [(3, 3), (6, 6), (9, 9)])

    def test_boxes_on_a_way_that_does_not_close(self):
        hidden = [(0, 0), (0, 1), (1, 1), (1, 2), (2, 2)]
        self.assertEqual(self.all_told(NINE, hidden), [(1, 1), (2, 2), (5, 5), (6, 6), (9, 9)])

    def test_a_ring_that_noughts_hold(self):
        # What lessens on the one turn of the ring is nought on both sides of it: it goes round the other way alone.
        hidden = [(0, 0), (0, 1), (1, 0), (1, 1)]
        self.assertEqual(self.all_told([[0, 3], [2, 9]], hidden), [(0, 2), (1, 3), (0, 2), (9, 11)])
        self.assertEqual(self.all_told([[0, 3], [2, 0]], hidden), [(0, 2), (1, 3), (0, 2), (0, 2)])
        self.assertEqual(self.all_told([[0, 3], [0, 9]], hidden), [(0, 0), (3, 3), (0, 0), (9, 9)])

    def test_low_that_is_nought(self):
        told = could_be([[0, 3], [0, 9]], [(0, 0), (0, 1), (1, 0), (1, 1)], (0, 0))
        self.assertEqual((told[0], told[2], told[3]), (0, None, 0))
        self.assertIsNone(could_be([[0]], [(0, 0)], (0, 0))[2])
        self.assertEqual(could_be([[0]], [(0, 0)], (0, 0)), (0, [[0]], None, 0, [[0]], ([0], [])))

    def test_one_box(self):
        for number in (1, 9, GREAT):
            right = (number, [[number]], ([0], []), number, [[number]], ([0], []))
            self.assertEqual(could_be([[number]], [(0, 0)], (0, 0)), right)
            self.assertEqual(told_outright([[number]], [(0, 0)]), [(0, 0)])

    def test_in_any_order(self):
        chance = random.Random(22)
        right = {cell: self.told(NINE, every_box(NINE), cell) for cell in every_box(NINE)}
        for turn in range(20):
            hidden = chance.sample(every_box(NINE), 9)
            self.assertEqual(dict(zip(hidden, self.all_told(NINE, hidden))), right)

    def test_all_hidden(self):
        # Then a box is bounded by its row's and its column's sum, and by what the others can't take.
        for grid in (NINE, [[1, 0, 2, 5]], [[4], [0]], [[0, 0], [0, 0]]):
            rows, columns = sums_of(grid)
            whole = sum(rows)
            right = []
            for row, at in every_box(grid):
                right.append((max(0, rows[row] + columns[at] - whole), min(rows[row], columns[at])))
            self.assertEqual(self.all_told(grid, every_box(grid)), right)

    def test_great_numbers(self):
        hidden = [(0, 0), (0, 1), (1, 0), (1, 1)]
        right = [(GREAT - 3, GREAT + 1), (0, 4), (1, 5), (0, 4)]
        self.assertEqual(self.all_told([[GREAT, 1], [2, 3]], hidden), right)
        right = [(0, GREAT + 1), (0, GREAT + 1), (1, GREAT + 2), (0, GREAT + 1)]
        self.assertEqual(self.all_told([[GREAT, 1], [2, GREAT]], hidden), right)
        chance = random.Random(23)
        for turn in range(10):
            grid = random_grid(chance, 6, 6, GREAT)
            self.all_told(grid, every_box(grid))
            self.all_told(grid, [box for box in every_box(grid) if chance.randrange(2)])

    def test_six_by_six(self):
        chance = random.Random(24)
        for turn in range(25):
            grid = random_grid(chance, 6, 6, chance.choice([1, 3, 20]))
            share = chance.choice([2, 3, 4])
            self.all_told(grid, chance.sample(every_box(grid), 36 * (share - 1) // share))

    def test_beside_all_tables_that_could_be(self):
        chance = random.Random(25)
        seen = []
        for turn in range(250):
            grid = random_grid(chance, chance.randrange(1, 5), chance.randrange(1, 5), 2)
            boxes = every_box(grid)
            hidden = chance.sample(boxes, chance.randrange(min(len(boxes), 9) + 1))
            tables = tables_of(grid, hidden)
            right = []
            for row, column in hidden:
                numbers = [table[row][column] for table in tables]
                right.append((min(numbers), max(numbers)))
            self.assertEqual(self.all_told(grid, hidden), right)
            seen += [(low == high, low == 0) for low, high in right]
        self.assertTrue(all(seen.count((one, other)) > 20 for one in (True, False) for other in (True, False)))

    def test_somewhat_beyond_the_bounds(self):
        chance = random.Random(26)
        grid = random_grid(chance, 9, 20, 5)
        self.all_told(grid, chance.sample(every_box(grid), 90))


class Outright(Told):
    def test_none_hidden(self):
        for grid in (NINE, [[0]], [[0, 1]]):
            self.assertEqual(told_outright(grid, []), [])

    def test_all_hidden(self):
        self.assertEqual(told_outright(NINE, every_box(NINE)), [])
        self.assertEqual(told_outright([[1, 2, 3]], [(0, 0), (0, 1), (0, 2)]), [(0, 0), (0, 1), (0, 2)])
        self.assertEqual(told_outright([[0, 0], [0, 0]], every_box([[0, 0], [0, 0]])), every_box([[0, 0], [0, 0]]))

    def test_some_of_them(self):
        hidden = [(2, 1), (1, 1), (1, 0), (0, 1), (0, 0), (1, 2)]
        self.assertEqual(told_outright(NINE, hidden), [(1, 2), (2, 1)])
        self.assertEqual(told_outright(NINE, hidden[1:5]), [])
        self.assertEqual(told_outright(NINE, hidden[2:]), [(0, 0), (0, 1), (1, 0), (1, 2)])

    def test_rising(self):
        hidden = [(2, 2), (0, 2), (1, 0), (0, 1)]
        self.assertEqual(told_outright(NINE, hidden), [(0, 1), (0, 2), (1, 0), (2, 2)])


class Refused(unittest.TestCase):
    def test_a_box_that_is_not_hidden(self):
        hidden = [(0, 0), (0, 1), (1, 0), (1, 1)]
        for cell in [(0, 2), (2, 0), (2, 2), (1, 2)]:
            self.assertEqual(refused(self, NoVeil, could_be, NINE, hidden, cell).cell, cell)
        for cell in every_box(NINE):
            self.assertEqual(refused(self, NoVeil, could_be, NINE, [], cell).cell, cell)

    def test_a_box_that_the_grid_has_not(self):
        for cell in [(3, 0), (0, 3), (-1, 0), (0, -1), (-1, -1), (-3, -3), (3, 3), (10 ** 59, 0), (0, -(10 ** 59))]:
            for hidden in ([], [(0, 0)], every_box(NINE)):
                told = refused(self, NoVeil, could_be, NINE, hidden, cell).cell
                self.assertEqual((told, type(told)), (cell, tuple))

    def test_a_box_that_the_grid_has_not_even_where_it_is_called_hidden(self):
        for cell in [(3, 0), (0, 3), (-1, 0), (0, -1), (3, 3), (-3, -3)]:
            for hidden in ([cell], every_box(NINE) + [cell]):
                self.assertEqual(refused(self, NoVeil, could_be, NINE, hidden, cell).cell, cell)

    def test_each_side_has_its_own_places(self):
        wide, tall = [[1, 2, 3]], [[1], [2], [3]]
        self.assertEqual(could_be(wide, every_box(wide), (0, 2))[0], 3)
        self.assertEqual(could_be(tall, every_box(tall), (2, 0))[0], 3)
        self.assertEqual(refused(self, NoVeil, could_be, wide, every_box(wide), (2, 0)).cell, (2, 0))
        self.assertEqual(refused(self, NoVeil, could_be, tall, every_box(tall), (0, 2)).cell, (0, 2))


class Unchanged(unittest.TestCase):
    def test_what_is_handed_in(self):
        grid, hidden = [[1, 2], [3, 4]], [(1, 1), (0, 0), (1, 0), (0, 1)]
        for cell in list(hidden):
            told = could_be(grid, hidden, cell)
            kept = repr(told)
            self.assertEqual((grid, hidden), ([[1, 2], [3, 4]], [(1, 1), (0, 0), (1, 0), (0, 1)]))
            told_outright(grid, hidden)
            self.assertEqual((grid, hidden), ([[1, 2], [3, 4]], [(1, 1), (0, 0), (1, 0), (0, 1)]))
            grid[0][0] = 5
            hidden.append((9, 9))
            self.assertEqual(repr(told), kept)
            grid[0][0] = 1
            hidden.pop()

    def test_what_is_refused(self):
        grid, hidden = [[1, 2], [3, 4]], [(1, 1), (0, 0)]
        refused(self, NoVeil, could_be, grid, hidden, (0, 1))
        refused(self, NoVeil, could_be, grid, hidden, (7, 1))
        self.assertEqual((grid, hidden), ([[1, 2], [3, 4]], [(1, 1), (0, 0)]))

    def test_what_is_told(self):
        grid, hidden = [[1, 2], [3, 4]], [(0, 0), (0, 1), (1, 0), (1, 1)]
        right = repr(could_be(grid, hidden, (1, 0)))
        low, one, below, high, other, above = could_be(grid, hidden, (1, 0))
        for told in (one, other):
            told[0][0] = 99
            told[1].append(99)
            told.append(99)
        for told in (*below, *above):
            told.append(99)
        self.assertEqual(grid, [[1, 2], [3, 4]])
        self.assertEqual(repr(could_be(grid, hidden, (1, 0))), right)

    def test_no_list_is_told_twice(self):
        # With low as high both tables are alike, yet each is the asker's own; and so are the grounds.
        grid = [[1, 2], [3, 4]]
        low, one, below, high, other, above = could_be(grid, [(0, 0)], (0, 0))
        self.assertEqual((one, other), (grid, grid))
        one[0][0] = 99
        one.append(99)
        self.assertEqual((grid, other), ([[1, 2], [3, 4]], [[1, 2], [3, 4]]))
        lists = [one, other, *one[:2], *other, *grid, grid, *below, *above]
        self.assertEqual(len({id(told) for told in lists}), len(lists))

    def test_outright(self):
        grid, hidden = [[1, 2], [3, 4]], [(1, 1), (0, 0)]
        told = told_outright(grid, hidden)
        told.append(99)
        self.assertEqual(told_outright(grid, hidden), [(0, 0), (1, 1)])
        self.assertEqual(hidden, [(1, 1), (0, 0)])
        rising = [(0, 0), (1, 1)]
        told_outright(grid, rising).append(99)
        self.assertEqual(rising, [(0, 0), (1, 1)])


class Interface(unittest.TestCase):
    def test_arguments(self):
        for name, right in [("could_be", "grid hidden cell"), ("told_outright", "grid hidden")]:
            self.assertEqual(list(inspect.signature(getattr(veils, name)).parameters), right.split())


if __name__ == "__main__":
    unittest.main()
