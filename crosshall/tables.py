"""Tables: rows laid under the heads of two sides, their boxes, and the grids of these."""

from crosshall.figures import figure_of
from crosshall.heads import asked_path, asked_view, heads_of, names_of, paths_over
from crosshall.sieves import asked_sieve, lets_by


def lay(sheet, view, sieve):
    fields = sheet.fields()
    asked_view(fields, view)
    asked_sieve(fields, sieve)
    pairs = [(number, sheet.row(number)) for number in sheet.numbers()]
    return Table(fields, view, [pair for pair in pairs if lets_by(fields, sieve, pair[1])])


def laid_in_boxes(fields, view, pairs):
    boxes = {}
    for number, row in pairs:
        others = paths_over(fields, view[1], row)
        for one in paths_over(fields, view[0], row):
            for other in others:
                boxes.setdefault((one, other), []).append((number, row))
    return boxes


class Table:
    def __init__(self, fields, view, rows):
        self.kept_fields = list(fields)
        self.kept_view = view
        laid = [row for number, row in rows]
        self.kept_heads = {"rows": heads_of(fields, view[0], laid), "columns": heads_of(fields, view[1], laid)}
        # Sorted into boxes once, so that no asking goes through all rows again; a box without rows is not in it.
        self.boxes = laid_in_boxes(fields, view, rows)

    def fields(self):
        return list(self.kept_fields)

    def view(self):
        return self.kept_view

    def heads(self, side):
        return list(self.kept_heads[side])

    def kids(self, side, path):
        asked_path(self.kept_fields, names_of(self.kept_view, side), path)
        many = len(path)
        return [head for head in self.kept_heads[side] if len(head) == many + 1 and head[:many] == path]

    def bottom(self, side):
        many = len(names_of(self.kept_view, side))
        return [head for head in self.kept_heads[side] if len(head) == many]

    def lying(self, one, other):
        asked_path(self.kept_fields, self.kept_view[0], one)
        asked_path(self.kept_fields, self.kept_view[1], other)
        return self.boxes.get((one, other), [])

    def opened(self, one, other):
        return [number for number, row in self.lying(one, other)]

    def box(self, one, other):
        rows = [row for number, row in self.lying(one, other)]
        return [figure_of(self.kept_fields, figure, rows) for figure in self.kept_view[2]]

    def figure_in(self, figure, one, other):
        rows = [row for number, row in self.boxes.get((one, other), [])]
        return figure_of(self.kept_fields, figure, rows)

    def grid(self, figure):
        asked = self.kept_view[2][figure]
        columns = self.bottom("columns")
        grid = []
        for one in self.bottom("rows"):
            grid.append([self.figure_in(asked, one, other) for other in columns])
        return grid
