"""Whole parts of a grid, which add up by rows, by columns and by groups of them."""

from crosshall.errors import NoGroups, NoWhole
from crosshall.flows import flow_or_cut
from crosshall.shares import column_sums

MOST_GROUPS = 8


def asked_group(group, many):
    if not group:
        raise NoGroups("a group has a place at least")
    if group != sorted(set(group)):
        raise NoGroups("the places of a group rise")
    if group[0] < 0 or group[-1] >= many:
        raise NoGroups("the places of a group are those of the grid")
    return True


def asked_pair(one, other):
    shared = [place for place in one if place in other]
    if shared and len(shared) < min(len(one), len(other)):
        raise NoGroups("of two groups that share a place one has all of the other's")
    return True


def asked_groups(groups, many):
    if len(groups) > MOST_GROUPS:
        raise NoGroups("a side has at most 8 groups")
    for at, group in enumerate(groups):
        asked_group(group, many)
        for other in groups[:at]:
            asked_pair(group, other)
    return True


def widest_first(groups):
    return sorted(groups, key=len, reverse=True)


def closest(groups, upto, place):
    # The groups stand widest first: of those that have the place, the last one lies within all the others.
    held = [at for at in range(upto) if place in groups[at]]
    return held[-1] if held else None


def links_up(side, groups, sums):
    # Each place and each group leads to the closest group round it, or where there is none to the whole side (None).
    told = []
    for at, number in enumerate(sums):
        told.append(((side, "place", at), (side, "group", closest(groups, len(groups), at)), number))
    for at, group in enumerate(groups):
        number = sum([sums[place] for place in group])
        told.append(((side, "group", at), (side, "group", closest(groups, at, group[0])), number))
    return told


def links_down(side, groups, sums):
    return [(above, below, number) for below, above, number in links_up(side, groups, sums)]


def box_links(grid):
    told = []
    for row, numbers in enumerate(grid):
        for column, number in enumerate(numbers):
            told.append(((("column", column), "place", row), ("rows", "place", row), number))
    return told


def column_links(grid, row_groups):
    told = []
    for column, number in enumerate(column_sums(grid)):
        told.append((("columns", "place", column), (("column", column), "group", None), number))
        told += links_down(("column", column), row_groups, [row[column] for row in grid])
    return told


def all_links(grid, row_groups, column_groups):
    # All goes down from the columns' side, through groups of columns, columns and groups of rows within a column, to
    # the boxes, from there up through rows and groups of rows, and round again. Both ways are nested, so it is a net.
    row_sums = [sum(row) for row in grid]
    told = box_links(grid) + column_links(grid, row_groups)
    told += links_down("columns", column_groups, column_sums(grid))
    told += links_up("rows", row_groups, row_sums)
    told.append((("rows", "group", None), ("columns", "group", None), sum(row_sums)))
    return told


def nodes_of(links):
    # All goes round: so each node is the start of a link.
    told = {}
    for start, goal, number in links:
        told.setdefault(start, len(told))
    return told


def rounded_flow(links, many, whole):
    # The dues themselves are a flow between these bounds; so there is one in whole numbers, too.
    nodes = nodes_of(links)
    arcs = []
    for start, goal, number in links:
        arcs.append((nodes[start], nodes[goal], number * many // whole, -(-number * many // whole)))
    return flow_or_cut(len(nodes), arcs)[1]


def parts(grid, many, row_groups, column_groups):
    whole = sum([sum(row) for row in grid])
    if whole == 0:
        raise NoWhole("the grid's numbers come to 0")
    width = len(grid[0])
    asked_groups(row_groups, len(grid))
    asked_groups(column_groups, width)
    links = all_links(grid, widest_first(row_groups), widest_first(column_groups))
    # The links of the boxes stand first, row by row.
    flow = rounded_flow(links, many, whole)
    return [flow[at * width:(at + 1) * width] for at in range(len(grid))]
