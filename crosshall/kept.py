"""Kept tables: rows come, go and turn, and the table of them is kept up; each deed tells what it changed."""

from crosshall.heads import path_key
from crosshall.sheets import Sheet
from crosshall.tables import laid_in_boxes, lay


def box_key(box):
    return (path_key(box[0]), path_key(box[1]))


def boxes_over(fields, view, rows):
    return sorted(laid_in_boxes(fields, view, [(0, row) for row in rows]), key=box_key)


def changes_in(boxes, before, after):
    told = []
    for one, other in boxes:
        was = before.box(one, other)
        became = after.box(one, other)
        if was != became:
            told.append((one, other, was, became))
    return told


class Kept:
    def __init__(self, fields, view, sieve):
        self.sheet = Sheet(fields)
        self.table = lay(self.sheet, view, sieve)
        self.kept_sieve = sieve

    def laid_anew(self, touched):
        # Only boxes over a row that came or went can become others, so these alone are asked.
        before = self.table
        self.table = lay(self.sheet, self.view(), self.kept_sieve)
        return changes_in(boxes_over(self.fields(), self.view(), touched), before, self.table)

    def put(self, row):
        number = self.sheet.put(row)
        return (number, self.laid_anew([self.sheet.row(number)]))

    def out(self, number):
        return self.laid_anew([self.sheet.out(number)])

    def turn(self, number, row):
        before = self.sheet.turn(number, row)
        return self.laid_anew([before, self.sheet.row(number)])

    def row(self, number):
        return self.sheet.row(number)

    def numbers(self):
        return self.sheet.numbers()

    def resieve(self, sieve):
        self.table = lay(self.sheet, self.view(), sieve)
        self.kept_sieve = sieve

    def fields(self):
        return self.table.fields()

    def view(self):
        return self.table.view()

    def heads(self, side):
        return self.table.heads(side)

    def kids(self, side, path):
        return self.table.kids(side, path)

    def bottom(self, side):
        return self.table.bottom(side)

    def opened(self, one, other):
        return self.table.opened(one, other)

    def box(self, one, other):
        return self.table.box(one, other)

    def grid(self, figure):
        return self.table.grid(figure)
