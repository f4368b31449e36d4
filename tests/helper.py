"""What several test files share."""

from crosshall.kept import Kept
from crosshall.sheets import Sheet
from crosshall.tables import lay
from crosshall.values import ahead


def not_texts():
    return [
        None, True, False, 0, 1, 7, -1, 10 ** 59, 10 ** 5000, 1.5, float("nan"), b"", b"a", [], ["a"], (), ("a",),
        {}, {"a": "a"}, set(), {"a"}, object(), str, len, range(3), NotImplemented, ...,
    ]


def not_lists():
    return [thing for thing in not_texts() if not isinstance(thing, list)] + ["", "a", "word", "town"]


def refused(test, error, deed, *things):
    """The error that the deed raises: of just that class, not of one under it."""
    with test.assertRaises(error) as caught:
        deed(*things)
    test.assertIs(type(caught.exception), error)
    return caught.exception


TREES = [("town", "word"), ("age", "number"), ("kind", "word"), ("high", "number")]
GROVE = [
    ("oak", 7, "a", 30), ("ash", 3, "b", None), ("oak", None, "b", -5), (None, 7, "a", 0), ("elm", -2, None, 30),
    ("ash", 3, "a", 10 ** 40), (None, None, None, None), ("oak", 7, "b", 30), ("0", 0, "a", -(10 ** 59)),
]
COUNT = ("count",)
ALL = ("all", ())
NEVER = ("some", ())
VIEWS = [
    ((), (), (COUNT,)), (("town",), (), (COUNT, ("sum", "age"))), ((), ("age",), (("unlike", "town"), COUNT)),
    (("town",), ("kind",), (("least", "high"), ("greatest", "high"), COUNT, COUNT)),
    (("kind", "town"), ("age",), (COUNT, ("sum", "age"), ("least", "town"), ("unlike", "high"))),
    (("town", "kind", "age"), ("high",), (COUNT, ("sum", "high"))), (("age",), ("high", "kind", "town"), (COUNT,)),
    ((), ("town", "age", "high"), (("sum", "high"), ("greatest", "kind"))),
    (("age", "high"), ("kind", "town"), (COUNT, ("unlike", "age"))),
]


def random_leaf(chance, fields):
    """One of the four forms without sieves within, right for the fields."""
    name, kind = chance.choice(fields)
    if chance.randrange(5) == 0:
        return ("lacks", name)
    if kind == "word":
        return ("is", name, chance.choice(["oak", "ash", "a", "b", "0", "007", "z" * 12]))
    return (chance.choice(["is", "under", "over"]), name, chance.choice([0, 7, 3, -2, 30, 10 ** 60 - 1, -(10 ** 59)]))


def random_sieve(chance, fields, levels):
    """A sieve of at most so many levels, and of few sieves within each."""
    form = chance.choice(["not", "all", "some", "leaf"])
    if levels == 1 or form == "leaf":
        return random_leaf(chance, fields)
    if form == "not":
        return ("not", random_sieve(chance, fields, levels - 1))
    return (form, tuple(random_sieve(chance, fields, levels - 1) for at in range(chance.randrange(4))))


def leaves(sieve):
    """The sieves without sieves within, from left to right."""
    if sieve[0] == "not":
        return leaves(sieve[1])
    if sieve[0] in ("all", "some"):
        return [leaf for inner in sieve[1] for leaf in leaves(inner)]
    return [sieve]


def levels_of(sieve):
    if sieve[0] == "not":
        return 1 + levels_of(sieve[1])
    if sieve[0] in ("all", "some"):
        return 1 + max([levels_of(inner) for inner in sieve[1]], default=0)
    return 1


def sieves_in(sieve):
    """How many sieves it has in all, itself too."""
    if sieve[0] == "not":
        return 1 + sieves_in(sieve[1])
    if sieve[0] in ("all", "some"):
        return 1 + sum(sieves_in(inner) for inner in sieve[1])
    return 1


def sheet_of(fields, rows):
    sheet = Sheet(fields)
    for row in rows:
        sheet.put(row)
    return sheet


def table_of(view, rows=GROVE, sieve=ALL):
    """A table laid of rows of TREES."""
    return lay(sheet_of(TREES, rows), view, sieve)


def kept_of(view, rows=GROVE, sieve=ALL):
    """A kept table with rows of TREES put in."""
    kept = Kept(TREES, view, sieve)
    for row in rows:
        kept.put(row)
    return kept


def open_all(look, table):
    for side in ("rows", "columns"):
        for path in table.heads(side):
            if table.kids(side, path):
                look.open_up(side, path)


def one_ahead(one, other):
    """The order of [13] as its words say, for sorting."""
    if one == other:
        return 0
    for left, right in zip(one, other):
        if left != right:
            return -1 if ahead(left, right) else 1
    return -1 if len(one) < len(other) else 1


def boxes_told(table):
    """The numbers and figures of each box of a head of rows and a head of columns."""
    pairs = [(one, other) for one in table.heads("rows") for other in table.heads("columns")]
    return {pair: (table.opened(*pair), table.box(*pair)) for pair in pairs}


def all_told(table):
    """All that a table, or a kept one, tells of itself."""
    sides = []
    for side in ("rows", "columns"):
        heads = table.heads(side)
        sides.append((heads, [table.kids(side, path) for path in heads], table.bottom(side)))
    grids = [table.grid(place) for place in range(len(table.view()[2]))]
    return table.fields(), table.view(), sides, boxes_told(table), grids


def random_net(chance, nodes, arcs, most):
    """A net of at most so many nodes (two at least) and arcs, with no number above the most."""
    many = chance.randrange(2, nodes + 1)
    told = []
    for at in range(chance.randrange(arcs + 1)):
        bounds = sorted([chance.choice([0, chance.randrange(most + 1)]), chance.randrange(most + 1)])
        told.append((*chance.sample(range(many), 2), *bounds))
    return many, told


def random_grid(chance, rows, columns, most):
    """A grid of that size, with no number above the most, and noughts among them."""
    return [[chance.choice([0, chance.randrange(most + 1)]) for column in range(columns)] for row in range(rows)]


def every_box(grid):
    """The places of all boxes, by rows, then columns."""
    return [(row, column) for row in range(len(grid)) for column in range(len(grid[0]))]
