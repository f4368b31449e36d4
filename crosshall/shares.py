"""Shares of grids as fractions in lowest terms, and so many dealt to weights."""

from crosshall.errors import NoWhole


def greatest_divisor(one, other):
    while other:
        rest = one % other
        one = other
        other = rest
    return one


def fraction(top, bottom):
    divisor = greatest_divisor(abs(top), bottom)
    return (top // divisor, bottom // divisor)


def column_sums(grid):
    width = len(grid[0]) if grid else 0
    return [sum([row[at] for row in grid]) for at in range(width)]


def wholes_of(grid, way):
    row_sums = [sum(row) for row in grid]
    if way == "rows":
        return [[number] * len(row) for row, number in zip(grid, row_sums)]
    if way == "columns":
        sums = column_sums(grid)
        return [sums for row in grid]
    return [[sum(row_sums)] * len(row) for row in grid]


def share(number, whole):
    return None if whole == 0 else fraction(number, whole)


def row_shares(row, wholes):
    return [share(number, whole) for number, whole in zip(row, wholes)]


def shares(grid, way):
    return [row_shares(row, wholes) for row, wholes in zip(grid, wholes_of(grid, way))]


def dealt(weights, many):
    whole = sum(weights)
    if whole == 0:
        raise NoWhole("the weights come to 0")
    told = [many * weight // whole for weight in weights]
    # Of like rests the first goes ahead, since sorting leaves like ones as they stand.
    order = sorted(range(len(weights)), key=lambda at: -(many * weights[at] % whole))
    left = many - sum(told)
    for at in order[:left]:
        told[at] += 1
    return told
