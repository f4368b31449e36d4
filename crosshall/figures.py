"""Figures: what is counted, summed and compared of some rows."""

from crosshall.errors import NoKind
from crosshall.sheets import field_at

NAMED_FORMS = ("sum", "greatest", "least", "unlike")


def is_figure(thing):
    if not isinstance(thing, tuple):
        return False
    if thing == ("count",):
        return True
    return len(thing) == 2 and thing[0] in NAMED_FORMS and isinstance(thing[1], str)


def asked_figure(fields, figure):
    if figure[0] == "count":
        return True
    kind = fields[field_at(fields, figure[1])][1]
    if figure[0] == "sum" and kind != "number":
        raise NoKind(figure[1])
    return True


def figure_of(fields, figure, rows):
    if figure[0] == "count":
        return len(rows)
    place = field_at(fields, figure[1])
    values = [row[place] for row in rows if row[place] is not None]
    if figure[0] == "sum":
        return sum(values)
    if figure[0] == "greatest":
        return max(values, default=None)
    if figure[0] == "least":
        return min(values, default=None)
    return len(set(values))
