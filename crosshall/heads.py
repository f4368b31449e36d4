"""Views, paths and heads: the two sides of a table."""

from crosshall.errors import NoHead, NoView
from crosshall.figures import asked_figure, is_figure
from crosshall.sheets import field_at
from crosshall.values import is_value, order_key

MOST_NAMES = 3
MOST_FIGURES = 4


def is_side(thing):
    if not isinstance(thing, tuple) or len(thing) > MOST_NAMES:
        return False
    return all([isinstance(name, str) for name in thing])


def is_figures(thing):
    if not isinstance(thing, tuple) or not 1 <= len(thing) <= MOST_FIGURES:
        return False
    return all([is_figure(figure) for figure in thing])


def asked_form(view):
    if not isinstance(view, tuple) or len(view) != 3:
        raise NoView("a view is a tuple of rows, columns and figures")
    if not is_side(view[0]) or not is_side(view[1]):
        raise NoView("a side is a tuple of at most three names")
    names = view[0] + view[1]
    if len(set(names)) < len(names):
        raise NoView("no name stands twice in rows and columns")
    if not is_figures(view[2]):
        raise NoView("figures are a tuple of one to four")
    return True


def asked_view(fields, view):
    asked_form(view)
    for name in view[0] + view[1]:
        field_at(fields, name)
    return all([asked_figure(fields, figure) for figure in view[2]])


def asked_path(fields, names, path):
    if len(path) > len(names):
        raise NoHead("a path has no more values than its side has names")
    for name, value in zip(names, path):
        if not is_value(fields[field_at(fields, name)][1], value):
            raise NoHead("a path has values of the fields' kinds")
    return True


def lies_under(fields, names, path, row):
    # What is longer than the names is no path: zip would leave its last values unasked.
    if len(path) > len(names):
        return False
    return all([row[field_at(fields, name)] == value for name, value in zip(names, path)])


def path_key(path):
    return [order_key(value) for value in path]


def names_of(view, side):
    return view[0] if side == "rows" else view[1]


def paths_over(fields, names, row):
    values = [row[field_at(fields, name)] for name in names]
    return [tuple(values[:many]) for many in range(len(values) + 1)]


def heads_of(fields, names, rows):
    heads = {(): True}
    for row in rows:
        for path in paths_over(fields, names, row):
            heads[path] = True
    return sorted(heads, key=path_key)
