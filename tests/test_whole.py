"""[3] the promise over the whole program: one kept table behind many deeds, and all that is told of it."""

import random
import unittest
from fractions import Fraction
from math import ceil, floor

from crosshall.errors import NoVeil
from crosshall.figures import figure_of
from crosshall.hiding import veil
from crosshall.kept import Kept
from crosshall.looks import Look
from crosshall.parts import parts
from crosshall.shares import shares
from crosshall.tables import Table
from crosshall.veils import could_be, told_outright
from helper import ALL, COUNT, all_told, boxes_told, every_box, open_all

FIELDS = [("town", "word"), ("kind", "word"), ("year", "number"), ("many", "number"), ("note", "word")]
FIGURES = (COUNT, ("sum", "many"), ("greatest", "note"), ("unlike", "year"))
SIEVES = [ALL, ("not", ("is", "town", "oak")), ("over", "many", 2), ("some", (("lacks", "kind"), ("under", "year", 3)))]
SIDES = [
    (("town", "kind"), ("year",)), (("town",), ("kind", "year")), (("year", "town", "kind"), ()),
    ((), ("kind", "town")), (("kind",), ("town",)), (("town", "year"), ("kind", "note")),
]


def random_row(chance):
    many = chance.choice([0, chance.randrange(12), None])
    note = chance.choice(["x", "y", None])
    town = chance.choice(["oak", "ash", "elm", None])
    return (town, chance.choice(["a", "b", None]), chance.choice([1, 2, None]), many, note)


def places_under(table, side, head):
    return [place for place, path in enumerate(table.bottom(side)) if path[:len(head)] == head]


class Told(unittest.TestCase):
    def a_kept_table(self, seed):
        """One behind so many deeds; each deed's changes turn the boxes that were to the boxes that are."""
        chance = random.Random(seed)
        kept = Kept(FIELDS, (*SIDES[seed % len(SIDES)], FIGURES), SIEVES[seed % len(SIEVES)])
        for step in range(chance.randrange(1, 40)):
            before = {box: told[1] for box, told in boxes_told(kept).items()}
            deed = chance.choice(["put", "put", "put", "out", "turn"])
            if deed == "put" or not kept.numbers():
                changes = kept.put(random_row(chance))[1]
            elif deed == "out":
                changes = kept.out(chance.choice(kept.numbers()))
            else:
                changes = kept.turn(chance.choice(kept.numbers()), random_row(chance))
            self.assert_changes(kept, before, changes)
        return kept

    def assert_changes(self, kept, before, changes):
        now = {box: told[1] for box, told in boxes_told(kept).items()}
        none = [figure_of(FIELDS, figure, []) for figure in FIGURES]
        for one, other, was, became in changes:
            self.assertEqual((before.get((one, other), none), now.get((one, other), none)), (was, became))
        told = [change[:2] for change in changes]
        for box in set(before) | set(now):
            self.assertEqual(box in told, before.get(box, none) != now.get(box, none))
        self.assertEqual(len(told), len(set(told)))


class Promise(Told):
    def test_each_box_is_the_plain_reckoning_over_its_rows(self):
        for seed in range(24):
            kept = self.a_kept_table(seed)
            for (one, other), (numbers, figures) in boxes_told(kept).items():
                rows = [kept.row(number) for number in numbers]
                self.assertEqual(figures, [figure_of(FIELDS, figure, rows) for figure in FIGURES])

    def test_kids_come_to_their_head_both_ways(self):
        for seed in range(24):
            kept = self.a_kept_table(seed)
            for one in kept.heads("rows"):
                for other in kept.heads("columns"):
                    whole = kept.box(one, other)[:2]
                    down = [kept.box(kid, other) for kid in kept.kids("rows", one)]
                    across = [kept.box(one, kid) for kid in kept.kids("columns", other)]
                    for boxes in (down, across):
                        if boxes:
                            self.assertEqual([sum(box[0] for box in boxes), sum(box[1] for box in boxes)], whole)

    def test_laid_anew(self):
        for seed in range(24):
            kept = self.a_kept_table(seed)
            pairs = [(number, kept.row(number)) for number in kept.opened((), ())]
            self.assertEqual(all_told(kept), all_told(Table(FIELDS, kept.view(), pairs)))

    def test_folding_and_sorting(self):
        for seed in range(24):
            kept = self.a_kept_table(seed)
            look = Look(kept)
            open_all(look, kept)
            for side in ("rows", "columns"):
                told = look.shown(side)
                self.assertEqual(told, kept.heads(side))
                for path in told:
                    if kept.kids(side, path):
                        look.fold(side, path)
                        look.open_up(side, path)
                        self.assertEqual(look.shown(side), told)
                look.sort_by(side, ((), 1, True))
                by_sum = look.shown(side)
                look.sort_by(side, ((), 2, False))
                look.sort_by(side, ((), 1, True))
                self.assertEqual((look.shown(side), sorted(by_sum, key=told.index)), (by_sum, told))
                look.sort_by(side, None)
                self.assertEqual(look.shown(side), told)


class Grids(Told):
    def grids(self):
        for seed in range(24):
            kept = self.a_kept_table(seed)
            for place in (0, 1):
                grid = kept.grid(place)
                if sum(sum(row) for row in grid):
                    yield kept, place, grid

    def test_shares_come_to_one(self):
        for kept, place, grid in self.grids():
            for way, lots in (("rows", shares(grid, "rows")), ("columns", list(zip(*shares(grid, "columns"))))):
                for lot in lots:
                    if None not in lot:
                        self.assertEqual(sum(Fraction(*part) for part in lot), 1, way)
            self.assertEqual(sum(Fraction(*part) for row in shares(grid, "all") for part in row), 1)

    def test_whole_parts_add_up_at_each_head(self):
        for kept, place, grid in self.grids():
            if len(grid) > 8 or len(grid[0]) > 8:
                continue
            groups = [[places_under(kept, side, head) for head in kept.heads(side)][:8] for side in ("rows", "columns")]
            told = parts(grid, 100, *groups)
            whole = sum(sum(row) for row in grid)
            lots = [(rows, range(len(grid[0]))) for rows in groups[0]] + [(range(len(grid)), at) for at in groups[1]]
            lots += [([row], [column]) for row, column in every_box(grid)]
            lots += [(rows, [column]) for rows in groups[0] for column in range(len(grid[0]))]
            for rows, columns in lots:
                due = Fraction(100 * sum(grid[row][column] for row in rows for column in columns), whole)
                self.assertIn(sum(told[row][column] for row in rows for column in columns), (floor(due), ceil(due)))
            self.assertEqual(sum(sum(row) for row in told), 100)

    def test_what_is_hidden(self):
        for kept, place, grid in self.grids():
            if len(grid) > 6 or len(grid[0]) > 6:
                continue
            small = [(row, column) for row, column in every_box(grid) if 1 <= grid[row][column] <= 2]
            try:
                hidden = veil(grid, 2)
            except NoVeil as refusal:
                self.assertIn(refusal.cell, told_outright(grid, every_box(grid)))
                continue
            self.assertFalse(set(small) & set(told_outright(grid, hidden)))
            for box in hidden:
                low, one, below, high, other, above = could_be(grid, hidden, box)
                self.assertTrue(low <= grid[box[0]][box[1]] <= high)
                self.assertEqual((one[box[0]][box[1]], other[box[0]][box[1]]), (low, high))
                self.assertEqual([sum(row) for row in one], [sum(row) for row in grid])
                self.assertEqual([sum(column) for column in zip(*other)], [sum(column) for column in zip(*grid)])


if __name__ == "__main__":
    unittest.main()
