"""Looks at tables: heads opened and folded, sides sorted by a column or row of the other one."""

from crosshall.errors import NoHead
from crosshall.heads import asked_path, names_of


def other_side(side):
    return "columns" if side == "rows" else "rows"


def asked_parent(table, side, path):
    if not table.kids(side, path):
        raise NoHead("this is no head that has kids")
    return True


def asked_order(table, side, by):
    if by is None:
        return True
    return asked_path(table.fields(), names_of(table.view(), other_side(side)), by[0])


def figure_by(table, side, kid, by):
    box = table.box(kid, by[0]) if side == "rows" else table.box(by[0], kid)
    return box[by[1]]


def first_of(pair):
    return pair[0]


def in_order(table, side, kids, by):
    if by is None:
        return kids
    pairs = [(figure_by(table, side, kid, by), kid) for kid in kids]
    # What lacks stays behind either way, so it is held out; sorting leaves like ones as they stand, also in reverse.
    there = [pair for pair in pairs if pair[0] is not None]
    there = sorted(there, key=first_of, reverse=True) if by[2] else sorted(there, key=first_of)
    return [kid for figure, kid in there] + [kid for figure, kid in pairs if figure is None]


class Look:
    def __init__(self, table):
        self.table = table
        # Kept by paths, not by the heads that are there: so a path that comes back has the state that it had.
        self.unfolded = {"rows": {(): True}, "columns": {(): True}}
        self.orders = {"rows": None, "columns": None}

    def open_up(self, side, path):
        asked_parent(self.table, side, path)
        self.unfolded[side][path] = True

    def fold(self, side, path):
        asked_parent(self.table, side, path)
        self.unfolded[side].pop(path, None)

    def sort_by(self, side, by):
        asked_order(self.table, side, by)
        self.orders[side] = by

    def shown_from(self, side, path):
        told = [path]
        if path in self.unfolded[side]:
            for kid in in_order(self.table, side, self.table.kids(side, path), self.orders[side]):
                told += self.shown_from(side, kid)
        return told

    def shown(self, side):
        return self.shown_from(side, ())
