"""What hidden boxes could be, each bound borne out by a table and by a ground, and which are told outright."""

from crosshall.errors import NoVeil
from crosshall.flows import Stream


def asked_cell(grid, hidden, cell):
    if cell not in hidden or not 0 <= cell[0] < len(grid) or not 0 <= cell[1] < len(grid[0]):
        raise NoVeil(cell)
    return True


def number_at(grid, cell):
    return grid[cell[0]][cell[1]]


def sum_of_all(grid):
    return sum([sum(row) for row in grid])


def column_node(grid, column):
    # The rows are the first nodes, the columns those behind them.
    return len(grid) + column


def others_of(hidden, cell):
    return [box for box in hidden if box != cell]


def stream_of(grid, boxes):
    # Each box leads from its row to its column. No arc is ever full: rests bound what a box can be, not its arc.
    most = sum_of_all(grid) + 1
    arcs = [(row, column_node(grid, column), 0, most) for row, column in boxes]
    return Stream(column_node(grid, len(grid[0])), arcs, [number_at(grid, box) for box in boxes])


def grid_with(grid, boxes, numbers, cell, number):
    told = [list(row) for row in grid]
    for box, other in zip(boxes, numbers):
        told[box[0]][box[1]] = other
    told[cell[0]][cell[1]] = number
    return told


def ground_of(grid, nodes):
    rows = [node for node in nodes if node < len(grid)]
    return (rows, [node - len(grid) for node in nodes if node >= len(grid)])


def lowest(grid, hidden, cell):
    others = others_of(hidden, cell)
    stream = stream_of(grid, others)
    number = number_at(grid, cell)
    low = number - stream.push(cell[0], column_node(grid, cell[1]), number)
    ground = None if low == 0 else ground_of(grid, sorted(stream.reach(cell[0])))
    return (low, grid_with(grid, others, stream.borne, cell, low), ground)


def highest(grid, hidden, cell):
    others = others_of(hidden, cell)
    stream = stream_of(grid, others)
    column = column_node(grid, cell[1])
    high = number_at(grid, cell) + stream.push(column, cell[0], sum_of_all(grid))
    reached = stream.reach(column)
    beyond = [node for node in range(column_node(grid, len(grid[0]))) if node not in reached]
    return (high, grid_with(grid, others, stream.borne, cell, high), ground_of(grid, beyond))


def could_be(grid, hidden, cell):
    asked_cell(grid, hidden, cell)
    return lowest(grid, hidden, cell) + highest(grid, hidden, cell)


def is_outright(grid, hidden, cell):
    # It can't be less, nor more: nothing can go round through the other boxes either way.
    stream = stream_of(grid, others_of(hidden, cell))
    column = column_node(grid, cell[1])
    if number_at(grid, cell) > 0 and column in stream.reach(cell[0]):
        return False
    return cell[0] not in stream.reach(column)


def told_outright(grid, hidden):
    return [box for box in sorted(hidden) if is_outright(grid, hidden, box)]
