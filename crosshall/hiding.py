"""Veils: boxes that are hidden so that no small one is told outright, and none of them in vain."""

from crosshall.errors import NoVeil
from crosshall.veils import is_outright


def boxes_of(grid):
    told = []
    for row, numbers in enumerate(grid):
        told += [(row, column) for column in range(len(numbers))]
    return told


def is_small(grid, box, few):
    return 1 <= grid[box[0]][box[1]] <= few


def first_outright(grid, hidden, small):
    for box in small:
        if is_outright(grid, hidden, box):
            return box
    return None


def veil(grid, few):
    boxes = boxes_of(grid)
    small = [box for box in boxes if is_small(grid, box, few)]
    told = first_outright(grid, boxes, small)
    if told is not None:
        raise NoVeil(told)
    # One round is enough: what could not be left out of more can't be left out of fewer, since each box that is shown
    # only takes tables away from those that could be.
    hidden = boxes
    for box in boxes:
        fewer = [other for other in hidden if other != box]
        if box not in small and first_outright(grid, fewer, small) is None:
            hidden = fewer
    return hidden
