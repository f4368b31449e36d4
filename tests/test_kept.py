"""[24] kept tables and the changes that each deed tells; [25] another sieve; [6], [14], [2] and [3] of them."""

import functools
import inspect
import random
import unittest

from crosshall.errors import NoField, NoFields, NoHead, NoKind, NoRow, NoSuch, NoView
from crosshall.figures import figure_of
from crosshall.heads import lies_under
from crosshall.kept import Kept
from crosshall.sieves import lets_by
from crosshall.tables import Table
from helper import (
    ALL, COUNT, GROVE, NEVER, TREES, VIEWS, all_told, kept_of, not_lists, one_ahead, random_sieve, refused,
)

TOWNS = (("town",), ("kind",), (COUNT, ("sum", "age")))
NO_OAKS = ("not", ("is", "town", "oak"))
# For each field of TREES a thing that it doesn't take.
WRONG = (7, "7", "A", True)


def let_by(sieve, pairs):
    return [pair for pair in pairs if lets_by(TREES, sieve, pair[1])]


def laid_of(view, sieve, there):
    """The table laid anew of the rows that are there, a dict by their numbers."""
    return Table(TREES, view, let_by(sieve, sorted(there.items())))


def reckoned(view, rows, one, other):
    under = [row for row in rows if lies_under(TREES, view[0], one, row) and lies_under(TREES, view[1], other, row)]
    return [figure_of(TREES, figure, under) for figure in view[2]]


def paths_of(names, rows):
    """All paths under which a row lies, and (), in the order of [13]."""
    places = [[field[0] for field in TREES].index(name) for name in names]
    paths = {tuple(row[place] for place in places[:many]) for row in rows for many in range(len(names) + 1)} | {()}
    return sorted(paths, key=functools.cmp_to_key(one_ahead))


def changes_between(view, sieve, before, after):
    """What [24] tells, of all boxes there were or are, by the rows that were there and are there."""
    was = [row for number, row in let_by(sieve, before.items())]
    now = [row for number, row in let_by(sieve, after.items())]
    told = []
    for one in paths_of(view[0], was + now):
        for other in paths_of(view[1], was + now):
            figures = (reckoned(view, was, one, other), reckoned(view, now, one, other))
            if figures[0] != figures[1]:
                told.append((one, other, *figures))
    return told


class Made(unittest.TestCase):
    def test_of_nothing(self):
        for view in VIEWS:
            kept = Kept(TREES, view, ALL)
            self.assertEqual((kept.fields(), kept.view(), kept.numbers()), (TREES, view, []))
            self.assertEqual((kept.heads("rows"), kept.heads("columns")), ([()], [()]))
            self.assertEqual(all_told(kept), all_told(Table(TREES, view, [])))

    def test_boxes_of_no_rows(self):
        kept = Kept(TREES, (("town",), (), (COUNT, ("sum", "age"), ("least", "kind"), ("unlike", "high"))), ALL)
        for path in ((), ("oak",), (None,)):
            self.assertEqual((kept.opened(path, ()), kept.box(path, ())), ([], [0, 0, None, 0]))
        self.assertEqual((kept.bottom("rows"), kept.bottom("columns"), kept.grid(0)), ([], [()], []))

    def test_refused_fields(self):
        for fields in not_lists() + [[], [("a", "word")] * 2, [("a", "text")], [("A", "word")], tuple(TREES)]:
            refused(self, NoFields, Kept, fields, TOWNS, ALL)

    def test_refused_views(self):
        for view in [
            ((), (), ()), (("town",), ("town",), (COUNT,)), ((), (), (COUNT,) * 5), None,
            (("town", "age", "kind", "high"), (), (COUNT,)),
        ]:
            refused(self, NoView, Kept, TREES, view, ALL)
        self.assertEqual(refused(self, NoField, Kept, TREES, (("x",), ("y",), (("sum", "z"),)), ALL).name, "x")
        self.assertEqual(refused(self, NoField, Kept, TREES, ((), (), (("least", "z"),)), ALL).name, "z")
        self.assertEqual(refused(self, NoKind, Kept, TREES, ((), (), (COUNT, ("sum", "kind"))), ALL).name, "kind")

    def test_refused_sieves(self):
        for sieve, error, name in [
            (("lacks", "x"), NoField, "x"), (("under", "town", 1), NoKind, "town"), (("is", "age", "a"), NoKind, "age"),
            (("some", (("is", "kind", 5), ("lacks", "y"))), NoKind, "kind"), (("not", ("over", "q", 5)), NoField, "q"),
        ]:
            self.assertEqual(refused(self, error, Kept, TREES, TOWNS, sieve).name, name)

    def test_fields_then_view_then_sieve(self):
        for view in (((), (), ()), ((), ("y",), (COUNT,)), ((), (), (("sum", "kind"),))):
            refused(self, NoFields, Kept, [("A", "word")], view, ("lacks", "x"))
        refused(self, NoFields, Kept, [], TOWNS, ("lacks", "x"))
        refused(self, NoView, Kept, TREES, ((), (), ()), ("lacks", "x"))
        self.assertEqual(refused(self, NoField, Kept, TREES, ((), ("y",), (COUNT,)), ("lacks", "x")).name, "y")
        self.assertEqual(refused(self, NoKind, Kept, TREES, ((), (), (("sum", "kind"),)), ("lacks", "x")).name, "kind")


class Rows(unittest.TestCase):
    """[6]: it keeps rows as a sheet does."""

    def test_put(self):
        kept = Kept(TREES, TOWNS, NO_OAKS)
        for number, row in enumerate(GROVE):
            told = kept.put(list(row) if number % 2 else row)
            self.assertEqual((type(told), len(told), told[0], type(told[1])), (tuple, 2, number, list))
            self.assertEqual(kept.row(number), row)
            self.assertIs(type(kept.row(number)), tuple)
        self.assertEqual(kept.numbers(), list(range(9)))

    def test_numbers_are_never_given_twice(self):
        kept = kept_of(TOWNS, GROVE[:3])
        for given, number in enumerate((2, 0, 1), start=3):
            kept.out(number)
            self.assertEqual(kept.put(GROVE[number])[0], given)
        self.assertEqual(kept.numbers(), [3, 4, 5])
        for number in (3, 4, 5):
            kept.out(number)
        self.assertEqual((kept.numbers(), kept.heads("rows")), ([], [()]))
        self.assertEqual(kept.put(GROVE[0])[0], 6)
        refused(self, NoRow, kept.put, ("oak",))
        kept.turn(6, GROVE[1])
        kept.resieve(NEVER)
        self.assertEqual(kept.put(GROVE[0])[0], 7)
        self.assertEqual(kept.numbers(), [6, 7])

    def test_turned(self):
        kept = kept_of(TOWNS, GROVE[:3])
        kept.turn(1, ["elm", None, "z", 4])
        self.assertEqual((kept.numbers(), kept.row(1)), ([0, 1, 2], ("elm", None, "z", 4)))
        self.assertEqual(kept.opened(("elm",), ()), [1])

    def test_rows_that_are_refused(self):
        kept = kept_of(TOWNS, GROVE[:3], NO_OAKS)
        told = (all_told(kept), kept.numbers())
        for row, place in [
            ((), 0), (("oak",), 1), (("oak", 7, "a"), 3), (("oak", 7, "a", 1, 1), 4), (("oak", "7", "a", None), 1),
            (["Oak", 7, "a", 1], 0), ((None, None, 5, "x"), 2), ((None, None, None, None, None), 4), ((None, True), 1),
            (("oak", 10 ** 60, "a", 1), 1), (("oak", [], "a", {}), 1), (("a" * 13, 1, "a", 1), 0), ([None] * 3, 3),
        ]:
            for deed, things in ((kept.put, [row]), (kept.turn, [1, row])):
                self.assertEqual(refused(self, NoRow, deed, *things).place, place)
                self.assertEqual((all_told(kept), kept.numbers()), told)
        for place, thing in enumerate(WRONG):
            row = [thing if at == place else None for at in range(4)]
            self.assertEqual(refused(self, NoRow, kept.put, row).place, place)
        self.assertEqual(kept.put(GROVE[3])[0], 3)

    def test_numbers_of_no_row(self):
        kept = kept_of(TOWNS, GROVE[:3])
        kept.out(1)
        told = (all_told(kept), kept.numbers())
        for number in (1, 3, -1, 10 ** 60 - 1, -(10 ** 59)):
            self.assertEqual(refused(self, NoSuch, kept.row, number).number, number)
            self.assertEqual(refused(self, NoSuch, kept.out, number).number, number)
            # Ahead of NoRow.
            for row in (GROVE[0], ("oak",), ("Oak", 7, "a", 30), ()):
                self.assertEqual(refused(self, NoSuch, kept.turn, number, row).number, number)
            self.assertEqual((all_told(kept), kept.numbers()), told)


class Changes(unittest.TestCase):
    def test_the_first_row(self):
        number, changes = Kept(TREES, TOWNS, ALL).put(("oak", 7, "a", 30))
        self.assertEqual(number, 0)
        self.assertEqual(changes, [
            ((), (), [0, 0], [1, 7]), ((), ("a",), [0, 0], [1, 7]),
            (("oak",), (), [0, 0], [1, 7]), (("oak",), ("a",), [0, 0], [1, 7]),
        ])

    def test_the_last_row_taken_out(self):
        kept = kept_of(TOWNS, GROVE[:1])
        self.assertEqual(kept.out(0), [
            ((), (), [1, 7], [0, 0]), ((), ("a",), [1, 7], [0, 0]),
            (("oak",), (), [1, 7], [0, 0]), (("oak",), ("a",), [1, 7], [0, 0]),
        ])
        self.assertEqual(all_told(kept), all_told(Kept(TREES, TOWNS, ALL)))

    def test_a_row_beside_others(self):
        kept = kept_of(TOWNS, [("oak", 7, "a", 30), ("ash", 3, "b", 1)])
        self.assertEqual(kept.put(("oak", None, "b", 1)), (2, [
            ((), (), [2, 10], [3, 10]), ((), ("b",), [1, 3], [2, 3]),
            (("oak",), (), [1, 7], [2, 7]), (("oak",), ("b",), [0, 0], [1, 0]),
        ]))
        self.assertEqual(kept.out(1), [
            ((), (), [3, 10], [2, 7]), ((), ("b",), [2, 3], [1, 0]),
            (("ash",), (), [1, 3], [0, 0]), (("ash",), ("b",), [1, 3], [0, 0]),
        ])

    def test_turned_to_other_heads(self):
        kept = kept_of(TOWNS, [("oak", 7, "a", 30), ("ash", 3, "b", 1)])
        self.assertEqual(kept.turn(0, ("elm", 7, None, 0)), [
            ((), ("a",), [1, 7], [0, 0]), ((), (None,), [0, 0], [1, 7]),
            (("elm",), (), [0, 0], [1, 7]), (("elm",), (None,), [0, 0], [1, 7]),
            (("oak",), (), [1, 7], [0, 0]), (("oak",), ("a",), [1, 7], [0, 0]),
        ])
        self.assertEqual(kept.turn(1, ("ash", 4, "b", 1)), [
            ((), (), [2, 10], [2, 11]), ((), ("b",), [1, 3], [1, 4]),
            (("ash",), (), [1, 3], [1, 4]), (("ash",), ("b",), [1, 3], [1, 4]),
        ])

    def test_turned_to_the_same(self):
        kept = kept_of(TOWNS, GROVE)
        for number, row in enumerate(GROVE):
            self.assertEqual(kept.turn(number, row), [])
        # Another one in a field that the view doesn't tell of.
        self.assertEqual(kept.turn(0, ("oak", 7, "a", 31)), [])
        self.assertEqual(kept.row(0), ("oak", 7, "a", 31))

    def test_a_head_comes_and_no_figure_turns(self):
        kept = Kept(TREES, (("town",), ("kind",), (("sum", "age"), ("greatest", "high"))), ALL)
        self.assertEqual(kept.put(("oak", None, "a", None)), (0, []))
        self.assertEqual((kept.heads("rows"), kept.heads("columns")), ([(), ("oak",)], [(), ("a",)]))
        self.assertEqual(kept.put(("ash", 0, "a", None)), (1, []))
        self.assertEqual(kept.put(("ash", 0, "b", 5)), (2, [
            ((), (), [0, None], [0, 5]), ((), ("b",), [0, None], [0, 5]),
            (("ash",), (), [0, None], [0, 5]), (("ash",), ("b",), [0, None], [0, 5]),
        ]))
        self.assertEqual(kept.out(0), [])
        self.assertEqual(kept.heads("rows"), [(), ("ash",)])
        self.assertEqual(kept.turn(1, ("elm", None, "c", None)), [])
        self.assertEqual(kept.heads("columns"), [(), ("b",), ("c",)])

    def test_some_boxes_over_a_row_stay_as_they_are(self):
        kept = kept_of((("town",), ("kind",), (("greatest", "age"),)), [("oak", 7, "a", 0), ("ash", 9, "b", 0)])
        self.assertEqual(kept.put(("oak", 8, "b", 0)), (2, [
            (("oak",), (), [7], [8]), (("oak",), ("b",), [None], [8]),
        ]))
        self.assertEqual(kept.put(("oak", 8, "b", 0)), (3, []))
        self.assertEqual(kept.out(2), [])
        self.assertEqual(kept.out(3), [(("oak",), (), [8], [7]), (("oak",), ("b",), [8], [None])])

    def test_one_figure_of_several(self):
        kept = kept_of(((), (), (COUNT, ("sum", "age"), ("unlike", "town"), ("least", "age"))), GROVE[:2])
        self.assertEqual(kept.turn(0, ("ash", 7, "a", 30)), [((), (), [2, 10, 2, 3], [2, 10, 1, 3])])
        self.assertEqual(kept.turn(1, ("ash", 10, "a", 30)), [((), (), [2, 10, 1, 3], [2, 17, 1, 7])])

    def test_a_view_of_no_names(self):
        for view, paths in [
            (((), (), (COUNT,)), [((), ())]), ((("town",), (), (COUNT,)), [((), ()), (("oak",), ())]),
            (((), ("town",), (COUNT,)), [((), ()), ((), ("oak",))]),
        ]:
            kept = Kept(TREES, view, ALL)
            self.assertEqual(kept.put(GROVE[0]), (0, [(one, other, [0], [1]) for one, other in paths]))
            self.assertEqual(kept.out(0), [(one, other, [1], [0]) for one, other in paths])

    def test_a_row_that_the_sieve_does_not_let_by(self):
        kept = Kept(TREES, TOWNS, NO_OAKS)
        self.assertEqual(kept.put(("oak", 7, "a", 30)), (0, []))
        self.assertEqual((kept.heads("rows"), kept.numbers(), kept.opened((), ())), ([()], [0], []))
        self.assertEqual(kept.turn(0, ("oak", 8, "b", 30)), [])
        self.assertEqual([change[2:] for change in kept.turn(0, ("ash", 8, "b", 30))], [([0, 0], [1, 8])] * 4)
        self.assertEqual(kept.opened((), ()), [0])
        self.assertEqual([change[2:] for change in kept.turn(0, ("oak", 8, "b", 30))], [([1, 8], [0, 0])] * 4)
        self.assertEqual(kept.out(0), [])

    def test_the_order_of_heads(self):
        kept = kept_of((("town", "age"), ("kind", "high"), (COUNT,)), [("oak", 10, "b", 2)])
        changes = kept.turn(0, (None, 9, None, -2))
        rows = [("oak",), ("oak", 10), (None,), (None, 9)]
        columns = [("b",), ("b", 2), (None,), (None, -2)]
        # The box ((), ()) counts one before and one then: it isn't told.
        told = [((), other) for other in columns]
        told += [(one, other) for one in rows[:2] for other in [()] + columns[:2]]
        told += [(one, other) for one in rows[2:] for other in [()] + columns[2:]]
        self.assertEqual([change[:2] for change in changes], told)
        changes = kept.turn(0, ("oak", 9, "b", -2))
        self.assertEqual([change[:2] for change in changes if change[3] == [1]], [
            ((), ("b",)), ((), ("b", -2)), (("oak",), ()), (("oak",), ("b",)), (("oak",), ("b", -2)),
            (("oak", 9), ()), (("oak", 9), ("b",)), (("oak", 9), ("b", -2)),
        ])

    def test_great_numbers(self):
        kept = Kept(TREES, (("age",), (), (("sum", "age"),)), ALL)
        great = 10 ** 60 - 1
        self.assertEqual(kept.put((None, great, None, None))[1], [
            ((), (), [0], [great]), ((great,), (), [0], [great]),
        ])
        self.assertEqual(kept.turn(0, (None, -great, None, None)), [
            ((), (), [great], [-great]), ((-great,), (), [0], [-great]), ((great,), (), [great], [0]),
        ])


class ManyDeeds(unittest.TestCase):
    """[3], [24], [25]: behind any deeds it is the table laid anew, and each tells just the boxes that it changed."""

    def test_beside_tables_laid_anew(self):
        for turn in range(5 * len(VIEWS)):
            chance = random.Random(turn)
            view = VIEWS[turn % len(VIEWS)]
            sieve = random_sieve(chance, TREES, 3) if turn % 3 else ALL
            kept = Kept(TREES, view, sieve)
            there = {}
            given = 0
            for step in range(25):
                if chance.randrange(8) == 0:
                    sieve = random_sieve(chance, TREES, 3) if chance.randrange(3) else ALL
                    self.assertIs(kept.resieve(sieve), None)
                else:
                    given = self.one_deed(chance, kept, sieve, there, given)
                self.assert_kept(kept, sieve, there)

    def one_deed(self, chance, kept, sieve, there, given):
        before = dict(there)
        row = tuple(chance.choice([one[place] for one in GROVE]) for place in range(4))
        deed = chance.choice(["put", "put", "out", "turn"])
        if deed == "put" or not there:
            there[given] = row
            number, changes = kept.put(row)
            self.assertEqual(number, given)
            given += 1
        elif deed == "out":
            number = chance.choice(sorted(there))
            there.pop(number)
            changes = kept.out(number)
        else:
            number = chance.choice(sorted(there))
            there[number] = row
            changes = kept.turn(number, row)
        self.assertEqual(changes, changes_between(kept.view(), sieve, before, there))
        return given

    def assert_kept(self, kept, sieve, there):
        self.assertEqual(kept.numbers(), sorted(there))
        self.assertEqual({number: kept.row(number) for number in kept.numbers()}, there)
        self.assertEqual(all_told(kept), all_told(laid_of(kept.view(), sieve, there)))

    def test_three_hundred_rows(self):
        kept = Kept(TREES, (("town", "kind"), ("age",), (COUNT, ("sum", "high"))), ALL)
        chance = random.Random(24)
        rows = [tuple(chance.choice([one[place] for one in GROVE]) for place in range(4)) for row in range(300)]
        for row in rows:
            kept.put(row)
        self.assertEqual(all_told(kept), all_told(laid_of(kept.view(), ALL, dict(enumerate(rows)))))
        for number in range(0, 300, 2):
            kept.out(number)
        there = {number: rows[number] for number in range(1, 300, 2)}
        self.assertEqual(all_told(kept), all_told(laid_of(kept.view(), ALL, there)))


class AnotherSieve(unittest.TestCase):
    def test_all_its_rows(self):
        kept = kept_of(TOWNS, GROVE, NEVER)
        self.assertEqual(kept.opened((), ()), [])
        for sieve in (ALL, NO_OAKS, ("is", "town", "oak"), NEVER, ("lacks", "age"), ("not", ("over", "age", 3)), ALL):
            self.assertIs(kept.resieve(sieve), None)
            self.assertEqual(all_told(kept), all_told(laid_of(TOWNS, sieve, dict(enumerate(GROVE)))))
            self.assertEqual(kept.numbers(), list(range(9)))
            self.assertEqual([kept.row(number) for number in range(9)], GROVE)

    def test_deeds_behind_it_go_by_it(self):
        kept = kept_of(TOWNS, GROVE[:2])
        kept.resieve(NO_OAKS)
        self.assertEqual(kept.heads("rows"), [(), ("ash",)])
        self.assertEqual(kept.put(("oak", 1, "a", 1)), (2, []))
        self.assertEqual(kept.out(0), [])
        self.assertEqual(len(kept.put(("elm", 1, "a", 1))[1]), 4)
        kept.resieve(ALL)
        self.assertEqual(kept.heads("rows"), [(), ("ash",), ("elm",), ("oak",)])
        self.assertEqual(len(kept.out(2)), 4)

    def test_of_no_rows(self):
        kept = Kept(TREES, TOWNS, ALL)
        kept.resieve(NEVER)
        self.assertEqual(kept.put(GROVE[0]), (0, []))
        kept.resieve(ALL)
        self.assertEqual(kept.box(("oak",), ("a",)), [1, 7])

    def test_refused(self):
        kept = kept_of(TOWNS, GROVE, NO_OAKS)
        told = all_told(kept)
        for sieve, error, name in [
            (("lacks", "x"), NoField, "x"), (("is", "age", "oak"), NoKind, "age"), (("is", "town", 7), NoKind, "town"),
            (("all", (("lacks", "age"), ("over", "kind", 1), ("lacks", "z"))), NoKind, "kind"),
            (("not", ("some", (("lacks", "z"), ("over", "kind", 1)))), NoField, "z"),
        ]:
            self.assertEqual(refused(self, error, kept.resieve, sieve).name, name)
            self.assertEqual(all_told(kept), told)
        # The sieve that it had still holds.
        self.assertEqual(kept.put(("oak", 1, "a", 1)), (9, []))


class WhatIsNoPath(unittest.TestCase):
    """[14], [13]: refused as a table refuses."""

    def test_boxes(self):
        kept = kept_of((("town", "age"), ("kind",), (COUNT,)), GROVE)
        for deed in (kept.opened, kept.box):
            for one, other in [
                ((7,), ()), (("oak", "7"), ()), (("oak", 7, "a"), ()), ((), (7,)), ((), ("a", "a")), (("Oak",), ("a",)),
                ((), ("",)), (("oak", 10 ** 60), ()), ((10 ** 5000,), ("A",)),
            ]:
                refused(self, NoHead, deed, one, other)
        self.assertEqual((kept.opened(("yew", 1), ("z",)), kept.box(("yew", 1), ("z",))), ([], [0]))

    def test_kids(self):
        kept = kept_of((("town", "age"), ("kind",), (COUNT,)), GROVE)
        for side, path in [("rows", (7,)), ("rows", ("a", 1, 1)), ("columns", (7,)), ("columns", ("a", None))]:
            refused(self, NoHead, kept.kids, side, path)
        for side, path in [("rows", ("yew",)), ("rows", ("oak", 7)), ("columns", ("z",)), ("columns", ("a",))]:
            self.assertEqual(kept.kids(side, path), [])


class Unchanged(unittest.TestCase):
    def test_what_is_handed_in(self):
        fields = list(TREES)
        row = list(GROVE[0])
        kept = Kept(fields, TOWNS, ALL)
        kept.put(row)
        kept.turn(0, row)
        refused(self, NoRow, kept.put, row + [1])
        self.assertEqual((fields, row), (TREES, list(GROVE[0])))
        told = all_told(kept)
        fields.reverse()
        row[0] = "elm"
        self.assertEqual(all_told(kept), told)
        self.assertEqual((kept.row(0), kept.fields()), (GROVE[0], TREES))
        fields.clear()
        row.clear()
        self.assertEqual(kept.put(GROVE[1])[0], 1)
        self.assertEqual(kept.heads("rows"), [(), ("ash",), ("oak",)])

    def test_lists_that_were_told(self):
        kept = kept_of(TOWNS, GROVE)
        asked = [
            kept.fields, kept.numbers, lambda: kept.heads("rows"), lambda: kept.heads("columns"),
            lambda: kept.kids("rows", ()), lambda: kept.bottom("columns"), lambda: kept.opened((), ()),
            lambda: kept.opened(("yew",), ()), lambda: kept.box((), ()), lambda: kept.grid(0), lambda: kept.grid(1),
        ]
        told = [repr(ask()) for ask in asked]
        for ask in asked:
            answer = ask()
            self.assertIs(type(answer), list)
            for thing in answer:
                if isinstance(thing, list):
                    thing.append("more")
            answer.append("more")
            answer.reverse()
            self.assertEqual([repr(again()) for again in asked], told)

    def test_changes_that_were_told(self):
        kept = Kept(TREES, TOWNS, ALL)
        for deed, things in ((kept.put, [GROVE[0]]), (kept.turn, [0, GROVE[1]]), (kept.out, [0])):
            changes = deed(*things)
            changes = changes[1] if deed == kept.put else changes
            lists = [figures for change in changes for figures in change[2:]]
            self.assertEqual(len({id(figures) for figures in lists}), len(lists))
            said = (repr(changes), repr(all_told(kept)))
            for figures in lists:
                figures.append("more")
            self.assertNotEqual(repr(changes), said[0])
            changes.clear()
            self.assertEqual(repr(all_told(kept)), said[1])
        self.assertEqual(kept.put(GROVE[0])[1][0], ((), (), [0, 0], [1, 7]))

    def test_changes_stay_as_they_were_told(self):
        kept = Kept(TREES, TOWNS, ALL)
        told = kept.put(GROVE[0])
        said = repr(told)
        kept.put(GROVE[1])
        kept.out(0)
        kept.resieve(NEVER)
        self.assertEqual(repr(told), said)


class Interface(unittest.TestCase):
    def test_arguments(self):
        told = {
            "put": ["row"], "out": ["number"], "turn": ["number", "row"], "row": ["number"], "numbers": [],
            "resieve": ["sieve"], "fields": [], "view": [], "heads": ["side"], "kids": ["side", "path"],
            "bottom": ["side"], "opened": ["one", "other"], "box": ["one", "other"], "grid": ["figure"],
        }
        for name, arguments in told.items():
            self.assertEqual(list(inspect.signature(getattr(Kept, name)).parameters), ["self"] + arguments)
        self.assertEqual(list(inspect.signature(Kept).parameters), ["fields", "view", "sieve"])

    def test_kinds(self):
        kept = Kept(TREES, TOWNS, ALL)
        changes = kept.put(GROVE[0])[1] + kept.turn(0, GROVE[1]) + kept.out(0)
        self.assertEqual({type(change) for change in changes}, {tuple})
        kinds = (tuple, tuple, list, list)
        self.assertEqual({tuple(type(thing) for thing in change) for change in changes}, {kinds})


if __name__ == "__main__":
    unittest.main()
