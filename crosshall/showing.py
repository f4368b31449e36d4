"""A look's lines: the heads and boxes that it shows, written out."""

from crosshall.values import written


def path_text(path):
    return "/".join([written(value) for value in path]) if path else "all"


def row_head_text(path):
    return "  " * (len(path) - 1) + path_text(path[-1:])


def by_commas(values):
    return ",".join([written(value) for value in values])


def parted(texts):
    return "".join(["|" + text for text in texts])


def row_line(table, path, columns):
    return row_head_text(path) + parted([by_commas(table.box(path, other)) for other in columns])


def lines_of(look):
    columns = look.shown("columns")
    told = [parted([path_text(path) for path in columns])]
    for path in look.shown("rows"):
        told.append(row_line(look.table, path, columns))
    return told
