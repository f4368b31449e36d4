"""[14] tables and boxes; [15] grids; [13] heads of a table; [3], [2] as far as tables go; [12], [9] at laying."""

import inspect
import random
import unittest

from crosshall.errors import NoField, NoHead, NoKind, NoView
from crosshall.figures import figure_of
from crosshall.heads import heads_of, lies_under
from crosshall.sieves import lets_by
from crosshall.tables import Table, lay
from helper import ALL, COUNT, GROVE, NEVER, TREES, VIEWS, random_sieve, refused, sheet_of, table_of

FIVE = [COUNT, ("sum", "high"), ("greatest", "town"), ("least", "age"), ("unlike", "kind")]


def grove(view, sieve=ALL):
    return table_of(view, GROVE, sieve)


class Laying(unittest.TestCase):
    def test_all_rows(self):
        table = grove((("town",), (), (COUNT,)))
        self.assertIs(type(table), Table)
        self.assertEqual(table.opened((), ()), list(range(9)))
        self.assertEqual(table.box((), ()), [9])

    def test_rows_that_the_sieve_lets_by(self):
        view = (("town",), ("kind",), (COUNT,))
        told = [
            (("is", "town", "oak"), [0, 2, 7]), (("lacks", "town"), [3, 6]), (("under", "age", 3), [4, 8]),
            (("over", "high", 0), [0, 4, 5, 7]), (("not", ("is", "kind", "a")), [1, 2, 4, 6, 7]),
            (("all", (("is", "age", 7), ("is", "high", 30))), [0, 7]), (NEVER, []), (ALL, list(range(9))),
        ]
        for sieve, numbers in told:
            table = grove(view, sieve)
            self.assertEqual(table.opened((), ()), numbers)
            self.assertEqual(table.box((), ()), [len(numbers)])

    def test_heads_of_rows_that_are_let_by_alone(self):
        table = grove((("town",), ("kind",), (COUNT,)), ("is", "age", 7))
        self.assertEqual(table.heads("rows"), [(), ("oak",), (None,)])
        self.assertEqual(table.heads("columns"), [(), ("a",), ("b",)])
        self.assertEqual(table.grid(0), [[1, 1], [1, 0]])

    def test_numbers_are_the_sheet_s(self):
        sheet = sheet_of(TREES, GROVE)
        for number in (0, 3, 8):
            sheet.out(number)
        sheet.turn(5, ("oak", 1, "a", 1))
        self.assertEqual(sheet.put(("oak", 2, "b", 2)), 9)
        table = lay(sheet, (("town",), (), (COUNT,)), ALL)
        self.assertEqual(table.opened((), ()), [1, 2, 4, 5, 6, 7, 9])
        self.assertEqual(table.opened(("oak",), ()), [2, 5, 7, 9])

    def test_refused_views(self):
        sheet = sheet_of(TREES, GROVE)
        for view in [
            (("town", "town"), (), (COUNT,)), (("town",), ("town",), (COUNT,)), (("town",), (), ()),
            (("town", "age", "kind", "high"), (), (COUNT,)), ((), (), (COUNT,) * 5), ((), ()), None, [(), (), (COUNT,)],
        ]:
            refused(self, NoView, lay, sheet, view, ALL)
        self.assertEqual(refused(self, NoField, lay, sheet, (("x",), (), (COUNT,)), ALL).name, "x")
        self.assertEqual(refused(self, NoField, lay, sheet, ((), ("y",), (("sum", "x"),)), ALL).name, "y")
        self.assertEqual(refused(self, NoKind, lay, sheet, ((), (), (("sum", "town"),)), ALL).name, "town")

    def test_refused_sieves(self):
        sheet = sheet_of(TREES, GROVE)
        view = (("town",), (), (COUNT,))
        for sieve, error, name in [
            (("lacks", "x"), NoField, "x"), (("is", "age", "oak"), NoKind, "age"), (("is", "town", 7), NoKind, "town"),
            (("under", "kind", 7), NoKind, "kind"), (("not", ("over", "town", 7)), NoKind, "town"),
            (("all", (("lacks", "age"), ("is", "y", 1), ("is", "age", "a"))), NoField, "y"),
            (("some", (("is", "age", "a"), ("is", "y", 1))), NoKind, "age"),
        ]:
            self.assertEqual(refused(self, error, lay, sheet, view, sieve).name, name)
            self.assertEqual(refused(self, error, lay, sheet_of(TREES, []), view, sieve).name, name)

    def test_the_view_goes_ahead_of_the_sieve(self):
        sheet = sheet_of(TREES, GROVE)
        for sieve in (("lacks", "z"), ("is", "high", "a")):
            refused(self, NoView, lay, sheet, (("town",), ("town",), (COUNT,)), sieve)
            self.assertEqual(refused(self, NoField, lay, sheet, ((), ("y",), (COUNT,)), sieve).name, "y")
            self.assertEqual(refused(self, NoKind, lay, sheet, ((), (), (("sum", "kind"),)), sieve).name, "kind")

    def test_made_of_pairs(self):
        view = (("town",), ("kind",), (COUNT, ("sum", "age")))
        table = Table(TREES, view, [(3, GROVE[0]), (5, GROVE[1]), (10 ** 59, GROVE[7])])
        self.assertEqual(table.heads("rows"), [(), ("ash",), ("oak",)])
        self.assertEqual(table.opened(("oak",), ()), [3, 10 ** 59])
        self.assertEqual(table.box(("oak",), ()), [2, 14])
        self.assertEqual(table.grid(0), [[0, 1], [1, 1]])
        self.assertEqual((table.fields(), table.view()), (TREES, view))


class Sides(unittest.TestCase):
    def test_no_names(self):
        for rows in (GROVE, []):
            table = lay(sheet_of(TREES, rows), ((), (), (COUNT,)), ALL)
            for side in ("rows", "columns"):
                self.assertEqual(table.heads(side), [()])
                self.assertEqual(table.kids(side, ()), [])
                self.assertEqual(table.bottom(side), [()])
            self.assertEqual(table.grid(0), [[len(rows)]])

    def test_one_name(self):
        table = grove((("town",), ("age",), (COUNT,)))
        towns = [("0",), ("ash",), ("elm",), ("oak",), (None,)]
        ages = [(-2,), (0,), (3,), (7,), (None,)]
        for side, paths in (("rows", towns), ("columns", ages)):
            self.assertEqual(table.heads(side), [()] + paths)
            self.assertEqual(table.kids(side, ()), paths)
            self.assertEqual(table.bottom(side), paths)
            for path in paths:
                self.assertEqual(table.kids(side, path), [])

    def test_three_names(self):
        names = ("kind", "town", "age")
        told = [
            (), ("a",), ("a", "0"), ("a", "0", 0), ("a", "ash"), ("a", "ash", 3), ("a", "oak"), ("a", "oak", 7),
            ("a", None), ("a", None, 7), ("b",), ("b", "ash"), ("b", "ash", 3), ("b", "oak"), ("b", "oak", 7),
            ("b", "oak", None), (None,), (None, "elm"), (None, "elm", -2), (None, None), (None, None, None),
        ]
        for view, side in (((names, (), (COUNT,)), "rows"), (((), names, (COUNT,)), "columns")):
            table = grove(view)
            self.assertEqual(table.heads(side), told)
            self.assertEqual(table.kids(side, ()), [("a",), ("b",), (None,)])
            self.assertEqual(table.kids(side, ("a",)), [("a", "0"), ("a", "ash"), ("a", "oak"), ("a", None)])
            self.assertEqual(table.kids(side, ("b", "oak")), [("b", "oak", 7), ("b", "oak", None)])
            self.assertEqual(table.kids(side, (None, None)), [(None, None, None)])
            self.assertEqual(table.kids(side, ("b", "oak", 7)), [])
            self.assertEqual(table.bottom(side), [path for path in told if len(path) == 3])

    def test_two_names_on_each_side(self):
        table = grove((("town", "kind"), ("age", "high"), (COUNT,)))
        self.assertEqual(table.kids("rows", ("oak",)), [("oak", "a"), ("oak", "b")])
        self.assertEqual(table.kids("columns", (7,)), [(7, 0), (7, 30)])
        self.assertEqual(table.kids("columns", (None,)), [(None, -5), (None, None)])
        self.assertEqual(table.bottom("columns"), [
            (-2, 30), (0, -(10 ** 59)), (3, 10 ** 40), (3, None), (7, 0), (7, 30), (None, -5), (None, None),
        ])

    def test_paths_that_are_no_heads_have_no_kids(self):
        table = grove((("town", "kind"), ("age",), (COUNT,)))
        for path in (("yew",), ("elm", "a"), ("0", None), ("yew", "a"), ("z" * 12,)):
            self.assertEqual(table.kids("rows", path), [])
        for path in ((4,), (10 ** 60 - 1,), (-(10 ** 60) + 1,)):
            self.assertEqual(table.kids("columns", path), [])

    def test_no_rows_on_it(self):
        for table in (lay(sheet_of(TREES, []), (("town", "kind"), ("age",), (COUNT,)), ALL),
                      grove((("town", "kind"), ("age",), (COUNT,)), NEVER)):
            for side in ("rows", "columns"):
                self.assertEqual(table.heads(side), [()])
                self.assertEqual(table.kids(side, ()), [])
                self.assertEqual(table.bottom(side), [])
            self.assertEqual(table.kids("rows", ("oak",)), [])

    def test_kids_of_what_is_no_path(self):
        table = grove((("town", "kind"), ("age",), (COUNT,)))
        wrong = [(7,), ("oak", 7), ("oak", "a", "a"), ("oak", "a", None), ("Oak",), ("",), ("a" * 13,), (10 ** 60,)]
        for path in wrong:
            refused(self, NoHead, table.kids, "rows", path)
        for path in (("7",), (7, 7), (7, None), (10 ** 60,), (-(10 ** 5000),), ("-",), ("oak",)):
            refused(self, NoHead, table.kids, "columns", path)
        plain = grove(((), (), (COUNT,)))
        for side in ("rows", "columns"):
            refused(self, NoHead, plain.kids, side, (None,))


class Boxes(unittest.TestCase):
    def test_rows_that_they_open_to(self):
        table = grove((("town", "age"), ("kind",), (COUNT,)))
        told = [
            ((), (), list(range(9))), (("oak",), (), [0, 2, 7]), (("oak", 7), (), [0, 7]), (("oak", 7), ("b",), [7]),
            ((), ("a",), [0, 3, 5, 8]), ((), (None,), [4, 6]), ((None,), (), [3, 6]), ((None, None), (None,), [6]),
            ((None, 7), ("a",), [3]), (("ash", 3), (), [1, 5]), (("ash",), ("b",), [1]), (("0", 0), ("a",), [8]),
        ]
        for one, other, numbers in told:
            self.assertEqual(table.opened(one, other), numbers)
            self.assertEqual(table.box(one, other), [len(numbers)])

    def test_nothing_lies_under(self):
        table = grove((("town", "age"), ("kind",), (COUNT, ("sum", "age"), ("greatest", "town"), ("unlike", "town"))))
        for one, other in [
            (("yew",), ()), (("oak", 8), ()), ((), ("z",)), (("yew",), ("z",)), (("elm",), ("a",)), (("0",), (None,)),
            (("yew", 7), ("a",)), (("ash", None), ()), (("oak", 10 ** 60 - 1), ()), (("oak",), ("0",)),
        ]:
            self.assertEqual(table.opened(one, other), [])
            self.assertEqual(table.box(one, other), [0, 0, None, 0])

    def test_each_figure(self):
        told = {
            ("oak",): [3, 55, "oak", 7, 2], ("ash",): [2, 10 ** 40, "ash", 3, 2], (None,): [2, 0, None, 7, 1],
            ("elm",): [1, 30, "elm", -2, 0], ("0",): [1, -(10 ** 59), "0", 0, 1], ("yew",): [0, 0, None, None, 0],
            (): [9, 85 + 10 ** 40 - 10 ** 59, "oak", -2, 2],
        }
        for path, figures in told.items():
            for place, figure in enumerate(FIVE):
                self.assertEqual(grove((("town",), (), (figure,))).box(path, ()), [figures[place]])
                self.assertEqual(grove(((), ("town",), (figure,))).box((), path), [figures[place]])
            self.assertEqual(grove((("town",), (), tuple(FIVE[1:]))).box(path, ()), figures[1:])

    def test_figures_in_the_view_s_order(self):
        for figures in ((COUNT, ("sum", "age")), (("sum", "age"), COUNT), (("sum", "age"), COUNT, ("sum", "age"))):
            told = grove((("town",), (), figures)).box(("oak",), ())
            self.assertEqual(told, [3 if figure == COUNT else 14 for figure in figures])

    def test_no_rows_on_it(self):
        for view in (((), (), tuple(FIVE[:4])), (("town",), ("age", "kind"), tuple(FIVE[:4]))):
            for table in (lay(sheet_of(TREES, []), view, ALL), grove(view, NEVER)):
                self.assertEqual(table.opened((), ()), [])
                self.assertEqual(table.box((), ()), [0, 0, None, None])

    def test_great_sums(self):
        rows = [("oak", 10 ** 60 - 1, None, -(10 ** 60) + 1)] * 300
        table = lay(sheet_of(TREES, rows), (("town",), (), (("sum", "age"), ("sum", "high"))), ALL)
        self.assertEqual(table.box(("oak",), ()), [300 * (10 ** 60 - 1), -300 * (10 ** 60 - 1)])

    def test_what_is_no_path(self):
        table = grove((("town", "age"), ("kind",), (COUNT,)))
        wrong_rows = [(7,), ("oak", "7"), ("oak", 7, "a"), ("Oak",), ("",), ("-",), ("a" * 13,), ("oak", 10 ** 60)]
        wrong_columns = [(7,), ("a", "a"), ("a", None), ("A",), ("b" * 400,), (10 ** 5000,), ("",)]
        for deed in (table.opened, table.box):
            for path in wrong_rows:
                for other in [(), ("a",), ("z",)] + wrong_columns:
                    refused(self, NoHead, deed, path, other)
            for path in wrong_columns:
                for one in ((), ("oak",), ("yew",)):
                    refused(self, NoHead, deed, one, path)
            self.assertEqual(table.box(("oak", 7), ("a",)), [1])

    def test_a_side_without_names(self):
        table = grove((("town",), (), (COUNT,)))
        for deed in (table.opened, table.box):
            refused(self, NoHead, deed, ("oak",), ("oak",))
            refused(self, NoHead, deed, (), (None,))
        self.assertEqual(table.box(("oak",), ()), [3])


class Grids(unittest.TestCase):
    def test_each_figure_by_its_place(self):
        table = grove((("town",), ("kind",), tuple(FIVE[1:])))
        self.assertEqual(table.grid(0), [[-(10 ** 59), 0, 0], [10 ** 40, 0, 0], [0, 0, 30], [30, 25, 0], [0, 0, 0]])
        self.assertEqual(table.grid(1), [
            ["0", None, None], ["ash", "ash", None], [None, None, "elm"], ["oak", "oak", None], [None, None, None],
        ])
        ages = [[0, None, None], [3, 3, None], [None, None, -2], [7, 7, None], [7, None, None]]
        self.assertEqual(table.grid(2), ages)
        self.assertEqual(table.grid(3), [[1, 0, 0], [1, 1, 0], [0, 0, 0], [1, 1, 0], [1, 0, 0]])
        counts = grove((("town",), ("kind",), (COUNT,))).grid(0)
        self.assertEqual(counts, [[1, 0, 0], [1, 1, 0], [0, 0, 1], [1, 2, 0], [1, 0, 1]])

    def test_the_other_way_round(self):
        for figure in FIVE:
            one = grove((("town", "age"), ("kind",), (figure,))).grid(0)
            other = grove((("kind",), ("town", "age"), (figure,))).grid(0)
            self.assertEqual([list(column) for column in zip(*one)], other)

    def test_a_side_without_names(self):
        self.assertEqual(grove((("town",), (), (COUNT,))).grid(0), [[1], [2], [1], [3], [2]])
        self.assertEqual(grove(((), ("town",), (COUNT,))).grid(0), [[1, 2, 1, 3, 2]])
        self.assertEqual(grove(((), (), (("greatest", "town"),))).grid(0), [["oak"]])

    def test_no_rows_on_it(self):
        for view, grid in [
            (((), (), (COUNT,)), [[0]]), ((("town",), (), (COUNT,)), []), (((), ("town",), (COUNT,)), [[]]),
            ((("town",), ("age",), (COUNT,)), []), (((), (), (("least", "town"),)), [[None]]),
        ]:
            self.assertEqual(grove(view, NEVER).grid(0), grid)
            self.assertEqual(lay(sheet_of(TREES, []), view, ALL).grid(0), grid)

    def test_three_hundred_rows_by_three_hundred_columns(self):
        rows = [("w" + str(number), number, None, 1) for number in range(300)]
        grid = lay(sheet_of(TREES, rows), (("town",), ("age",), (COUNT, ("sum", "high"))), ALL).grid(1)
        self.assertEqual([len(grid), sum(len(row) for row in grid), sum(sum(row) for row in grid)], [300, 90000, 300])


class PlainReckoning(unittest.TestCase):
    """[3]: each box is the plain reckoning over just the rows that it opens to."""

    def test_beside_it(self):
        chance = random.Random(14)
        for turn in range(60):
            rows = [chance.choice(GROVE) for row in range(chance.randrange(15))]
            sieve = random_sieve(chance, TREES, 3)
            view = VIEWS[turn % len(VIEWS)]
            table = lay(sheet_of(TREES, rows), view, sieve)
            self.assert_right(table, view, [pair for pair in enumerate(rows) if lets_by(TREES, sieve, pair[1])])

    def assert_right(self, table, view, pairs):
        for side, names in zip(("rows", "columns"), view):
            heads = heads_of(TREES, names, [row for number, row in pairs])
            self.assertEqual(table.heads(side), heads)
            self.assertEqual(table.bottom(side), [head for head in heads if len(head) == len(names)])
            for path in heads:
                kids = [head for head in heads if head[:-1] == path and head != ()]
                self.assertEqual(table.kids(side, path), kids)
        for one in table.heads("rows"):
            for other in table.heads("columns"):
                self.assert_box(table, view, pairs, one, other)
        boxes = [[table.box(one, other) for other in table.bottom("columns")] for one in table.bottom("rows")]
        for place in range(len(view[2])):
            self.assertEqual(table.grid(place), [[box[place] for box in row] for row in boxes])

    def assert_box(self, table, view, pairs, one, other):
        under = [pair for pair in pairs if lies_under(TREES, view[0], one, pair[1])]
        under = [pair for pair in under if lies_under(TREES, view[1], other, pair[1])]
        self.assertEqual(table.opened(one, other), [number for number, row in under])
        rows = [row for number, row in under]
        self.assertEqual(table.box(one, other), [figure_of(TREES, figure, rows) for figure in view[2]])


class KidsComeToTheirHead(unittest.TestCase):
    """[3]: at each head that has kids the counts and sums of these come to its own, both ways."""

    def assert_come_to(self, table, side, others, box):
        for path in table.heads(side):
            kids = table.kids(side, path)
            for other in others if kids else []:
                told = [box(kid, other) for kid in kids]
                self.assertEqual([sum(figures) for figures in zip(*told)], box(path, other))

    def test_both_sides(self):
        figures = (COUNT, ("sum", "high"), ("sum", "age"))
        for rows, columns, rest in VIEWS:
            table = grove((rows, columns, figures))
            self.assert_come_to(table, "rows", table.heads("columns"), table.box)
            self.assert_come_to(table, "columns", table.heads("rows"), lambda path, other: table.box(other, path))


class StaysAsItWasLaid(unittest.TestCase):
    def told(self, table):
        heads = [table.heads(side) for side in ("rows", "columns")]
        boxes = [(table.opened(one, other), table.box(one, other)) for one in heads[0] for other in heads[1]]
        return heads, boxes, table.grid(0), table.bottom("rows"), table.bottom("columns"), table.kids("rows", ())

    def test_deeds_behind_it(self):
        sheet = sheet_of(TREES, GROVE)
        view = (("town", "kind"), ("age",), (COUNT, ("sum", "high")))
        table = lay(sheet, view, ("not", ("is", "town", "elm")))
        told = self.told(table)
        sheet.put(("oak", 7, "a", 5))
        self.assertEqual(self.told(table), told)
        sheet.out(0)
        self.assertEqual(self.told(table), told)
        sheet.turn(1, ("yew", 99, "z", 1))
        self.assertEqual(self.told(table), told)
        for number in sheet.numbers():
            sheet.out(number)
        self.assertEqual(self.told(table), told)
        self.assertEqual(self.told(lay(sheet_of(TREES, GROVE), view, ("not", ("is", "town", "elm")))), told)
        self.assertEqual(lay(sheet, view, ALL).heads("rows"), [()])

    def test_fields_and_pairs_that_are_changed(self):
        fields = list(TREES)
        pairs = list(enumerate(GROVE))
        table = Table(fields, (("town",), ("kind",), (COUNT,)), pairs)
        told = self.told(table)
        fields.reverse()
        pairs.clear()
        self.assertEqual(self.told(table), told)
        self.assertEqual(table.fields(), TREES)


class Unchanged(unittest.TestCase):
    def test_what_is_handed_in(self):
        sheet = sheet_of(TREES, GROVE)
        refused(self, NoView, lay, sheet, ((), (), ()), ALL)
        refused(self, NoField, lay, sheet, ((), (), (COUNT,)), ("lacks", "x"))
        table = lay(sheet, (("town",), ("kind",), (COUNT,)), ("is", "age", 7))
        self.assertEqual(sheet.numbers(), list(range(9)))
        self.assertEqual([sheet.row(number) for number in range(9)], GROVE)
        self.assertEqual(sheet.fields(), TREES)
        fields = list(TREES)
        pairs = list(enumerate(GROVE))
        table = Table(fields, (("town",), ("kind",), (COUNT,)), pairs)
        table.grid(0)
        refused(self, NoHead, table.box, (7,), ())
        self.assertEqual((fields, pairs), (TREES, list(enumerate(GROVE))))

    def test_lists_that_were_told(self):
        table = grove((("town", "kind"), ("age",), (COUNT, ("sum", "age"))))
        asked = [
            table.fields, lambda: table.heads("rows"), lambda: table.heads("columns"), lambda: table.kids("rows", ()),
            lambda: table.kids("columns", ()), lambda: table.kids("rows", ("elm", None)), lambda: table.bottom("rows"),
            lambda: table.bottom("columns"), lambda: table.opened((), ()), lambda: table.opened(("yew",), ()),
            lambda: table.box((), ()), lambda: table.box(("yew",), ()), lambda: table.grid(0), lambda: table.grid(1),
        ]
        told = [repr(ask()) for ask in asked]
        for ask in asked:
            answer = ask()
            self.assertIs(type(answer), list)
            for thing in answer:
                if isinstance(thing, list):
                    thing.append("more")
            answer.append("more")
            answer.reverse()
            self.assertEqual([repr(again()) for again in asked], told)

    def test_rows_of_a_grid_are_lists_of_their_own(self):
        grid = grove((("town",), ("kind",), (COUNT,))).grid(0)
        self.assertEqual(len({id(row) for row in grid}), len(grid))


class Interface(unittest.TestCase):
    def test_arguments(self):
        told = {
            "fields": [], "view": [], "heads": ["side"], "kids": ["side", "path"], "bottom": ["side"],
            "opened": ["one", "other"], "box": ["one", "other"], "grid": ["figure"],
        }
        for name, arguments in told.items():
            self.assertEqual(list(inspect.signature(getattr(Table, name)).parameters), ["self"] + arguments)
        self.assertEqual(list(inspect.signature(lay).parameters), ["sheet", "view", "sieve"])
        self.assertEqual(list(inspect.signature(Table).parameters), ["fields", "view", "rows"])

    def test_kinds(self):
        view = (("town",), ("age",), (COUNT,))
        table = grove(view)
        self.assertEqual(table.view(), view)
        self.assertEqual(table.fields(), TREES)
        self.assertTrue(all(type(path) is tuple for path in table.heads("rows") + table.bottom("columns")))


if __name__ == "__main__":
    unittest.main()
