"""[26] looks, heads opened and folded; [27] sides sorted by a column or row of the other one; [2] and [3] of them."""

import functools
import inspect
import random
import unittest

from crosshall.errors import NoHead
from crosshall.kept import Kept
from crosshall.looks import Look
from crosshall.values import ahead
from helper import (
    ALL, COUNT, GROVE, NEVER, TREES, VIEWS, all_told, kept_of, one_ahead, open_all, refused, table_of,
)

SIDES = ("rows", "columns")
# Kinds a, b, c with counts 3, 1, 2; ages that lack for c; towns oak and ash in a, ash in b, elm in c.
WOOD = [
    ("oak", 5, "a", 1), ("ash", 9, "a", 1), ("oak", 2, "a", None), ("ash", -4, "b", 7), ("elm", None, "c", 7),
    ("elm", None, "c", 0),
]
FOUR = (COUNT, ("sum", "age"), ("greatest", "age"), ("least", "town"))


def two_sided(names, other, figures, side):
    """A view with the names on that side."""
    return (names, other, figures) if side == "rows" else (other, names, figures)


class AtFirst(unittest.TestCase):
    def test_all_folded_but_the_whole(self):
        for make in (table_of, kept_of):
            look = Look(make((("town", "kind"), ("age", "high"), (COUNT,))))
            self.assertEqual(look.shown("rows"), [(), ("0",), ("ash",), ("elm",), ("oak",), (None,)])
            self.assertEqual(look.shown("columns"), [(), (-2,), (0,), (3,), (7,), (None,)])

    def test_no_names_and_no_rows(self):
        for make in (table_of, kept_of):
            for look in (Look(make(((), (), (COUNT,)))), Look(make((("town",), ("age",), (COUNT,)), []))):
                self.assertEqual([look.shown(side) for side in SIDES], [[()], [()]])


class OpenAndFolded(unittest.TestCase):
    def assert_shown(self, look, side, *told):
        self.assertEqual(look.shown(side), [(), *told])

    def test_opened_and_folded(self):
        for side in SIDES:
            for make in (table_of, kept_of):
                look = Look(make(two_sided(("kind", "town", "age"), (), (COUNT,), side)))
                self.assertIs(look.open_up(side, ("b",)), None)
                self.assert_shown(look, side, ("a",), ("b",), ("b", "ash"), ("b", "oak"), (None,))
                look.open_up(side, ("b", "oak"))
                self.assert_shown(
                    look, side, ("a",), ("b",), ("b", "ash"), ("b", "oak"), ("b", "oak", 7), ("b", "oak", None), (None,)
                )
                look.open_up(side, (None,))
                self.assertEqual(look.shown(side)[-3:], [(None,), (None, "elm"), (None, None)])
                self.assertIs(look.fold(side, ("b",)), None)
                self.assert_shown(look, side, ("a",), ("b",), (None,), (None, "elm"), (None, None))

    def test_the_sides_apart(self):
        look = Look(table_of((("town", "kind"), ("age", "high"), (COUNT,))))
        columns = look.shown("columns")
        look.open_up("rows", ("oak",))
        look.fold("rows", ())
        self.assertEqual((look.shown("rows"), look.shown("columns")), ([()], columns))
        look.open_up("columns", (7,))
        look.open_up("rows", ())
        self.assertEqual(look.shown("columns"), [(), (-2,), (0,), (3,), (7,), (7, 0), (7, 30), (None,)])
        self.assert_shown(look, "rows", ("0",), ("ash",), ("elm",), ("oak",), ("oak", "a"), ("oak", "b"), (None,))

    def test_looks_at_one_table_apart(self):
        table = kept_of((("town", "kind"), (), (COUNT,)))
        one, other = Look(table), Look(table)
        one.fold("rows", ())
        one.sort_by("rows", ((), 0, True))
        self.assertEqual(one.shown("rows"), [()])
        self.assert_shown(other, "rows", ("0",), ("ash",), ("elm",), ("oak",), (None,))

    def test_so_already(self):
        look = Look(table_of((("town", "kind"), (), (COUNT,)), WOOD))
        for deed, path, told in [
            (look.fold, ("ash",), [(), ("ash",), ("elm",), ("oak",)]),
            (look.open_up, (), [(), ("ash",), ("elm",), ("oak",)]),
            (look.open_up, ("oak",), [(), ("ash",), ("elm",), ("oak",), ("oak", "a")]),
        ]:
            for again in range(2):
                self.assertIs(deed("rows", path), None)
                self.assertEqual(look.shown("rows"), told)
        look.fold("rows", ("oak",))
        self.assert_shown(look, "rows", ("ash",), ("elm",), ("oak",))

    def test_the_whole_folded(self):
        look = Look(table_of((("town", "kind"), (), (COUNT,)), WOOD))
        look.open_up("rows", ("ash",))
        told = look.shown("rows")
        for again in range(2):
            self.assertIs(look.fold("rows", ()), None)
            self.assertEqual(look.shown("rows"), [()])
        for again in range(2):
            look.open_up("rows", ())
            self.assertEqual(look.shown("rows"), told)

    def test_what_is_open_beneath_a_folded_head(self):
        look = Look(table_of((("kind", "town", "age"), (), (COUNT,)), WOOD))
        look.open_up("rows", ("a",))
        look.open_up("rows", ("a", "oak"))
        told = look.shown("rows")
        self.assertEqual(told, [
            (), ("a",), ("a", "ash"), ("a", "oak"), ("a", "oak", 2), ("a", "oak", 5), ("b",), ("c",),
        ])
        look.fold("rows", ("a",))
        self.assert_shown(look, "rows", ("a",), ("b",), ("c",))
        look.open_up("rows", ("a",))
        self.assertEqual(look.shown("rows"), told)
        # Opened and folded while it is not shown.
        look.fold("rows", ("a",))
        look.fold("rows", ("a", "oak"))
        look.open_up("rows", ("a", "ash"))
        look.open_up("rows", ("b", "ash"))
        self.assert_shown(look, "rows", ("a",), ("b",), ("c",))
        look.open_up("rows", ("a",))
        self.assert_shown(look, "rows", ("a",), ("a", "ash"), ("a", "ash", 9), ("a", "oak"), ("b",), ("c",))
        look.open_up("rows", ("b",))
        self.assertEqual(look.shown("rows")[-4:], [("b",), ("b", "ash"), ("b", "ash", -4), ("c",)])

    def test_every_head(self):
        for view in VIEWS:
            table = table_of(view)
            look = Look(table)
            open_all(look, table)
            self.assertEqual([look.shown(side) for side in SIDES], [table.heads(side) for side in SIDES])

    def test_folding_and_opening_again_is_nothing(self):
        for turn in range(40):
            chance = random.Random(turn)
            table = table_of(VIEWS[turn % len(VIEWS)])
            look = Look(table)
            parents = [(side, path) for side in SIDES for path in table.heads(side) if table.kids(side, path)]
            unfolded = {("rows", ()), ("columns", ())}
            for step in range(20 if parents else 0):
                side, path = chance.choice(parents)
                told = [look.shown(one) for one in SIDES]
                if (side, path) in unfolded:
                    look.fold(side, path)
                    unfolded.discard((side, path))
                    look.open_up(side, path)
                    self.assertEqual([look.shown(one) for one in SIDES], told)
                    look.fold(side, path)
                else:
                    look.open_up(side, path)
                    unfolded.add((side, path))
                self.assert_by_words(look, table, unfolded)

    def assert_by_words(self, look, table, unfolded):
        for side in SIDES:
            told = []
            for head in table.heads(side):
                if all((side, head[:many]) in unfolded for many in range(len(head))):
                    told.append(head)
            self.assertEqual(look.shown(side), told)


class NoHeads(unittest.TestCase):
    def assert_refused(self, look, side, path):
        told = [look.shown(one) for one in SIDES]
        for deed in (look.open_up, look.fold):
            refused(self, NoHead, deed, side, path)
            self.assertEqual([look.shown(one) for one in SIDES], told)

    def test_paths_that_are_none(self):
        for make in (table_of, kept_of):
            look = Look(make((("town", "age"), ("kind",), (COUNT,))))
            for path in [
                (7,), ("oak", "7"), ("oak", 7, "a"), ("Oak",), ("",), ("-",), ("a" * 13,), ("oak", 10 ** 60),
                (10 ** 5000,), (None, None, None),
            ]:
                self.assert_refused(look, "rows", path)
            for path in ((7,), ("a", "a"), ("A",), ("b" * 400,)):
                self.assert_refused(look, "columns", path)

    def test_paths_that_are_no_heads(self):
        look = Look(table_of((("town", "age"), ("kind", "high"), (COUNT,))))
        for path in (("yew",), ("z" * 12,), ("oak", 8), ("yew", 7)):
            self.assert_refused(look, "rows", path)
        for path in (("c",), ("a", 1), ("c", None)):
            self.assert_refused(look, "columns", path)

    def test_heads_without_kids(self):
        look = Look(table_of((("town", "age"), ("kind",), (COUNT,))))
        for side, path in [("rows", ("oak", 7)), ("rows", (None, None)), ("columns", ("a",)), ("columns", (None,))]:
            self.assert_refused(look, side, path)

    def test_the_whole_without_kids(self):
        for make in (table_of, kept_of):
            for look in (Look(make((("town",), ("age",), (COUNT,)), [])), Look(make(((), (), (COUNT,)))),
                         Look(make((("town",), ("age",), (COUNT,)), GROVE, NEVER))):
                for side in SIDES:
                    self.assert_refused(look, side, ())
        look = Look(table_of((("town",), (), (COUNT,))))
        self.assert_refused(look, "columns", ())
        look.fold("rows", ())

    def test_nothing_is_kept_of_a_refused_opening(self):
        kept = kept_of((("town", "kind"), (), (COUNT,)), WOOD)
        look = Look(kept)
        refused(self, NoHead, look.open_up, "rows", ("yew",))
        number = kept.put(("yew", 1, "a", 1))[0]
        self.assertEqual(look.shown("rows"), [(), ("ash",), ("elm",), ("oak",), ("yew",)])
        look.open_up("rows", ("yew",))
        kept.out(number)
        refused(self, NoHead, look.fold, "rows", ("yew",))
        kept.put(("yew", 1, "a", 1))
        self.assertEqual(look.shown("rows")[-2:], [("yew",), ("yew", "a")])


class ChangesUnderIt(unittest.TestCase):
    def test_rows_come_and_go(self):
        kept = Kept(TREES, (("town", "kind"), ("age",), (COUNT,)), ALL)
        look = Look(kept)
        self.assertEqual(look.shown("rows"), [()])
        kept.put(("oak", 7, "a", 30))
        self.assertEqual((look.shown("rows"), look.shown("columns")), ([(), ("oak",)], [(), (7,)]))
        look.open_up("rows", ("oak",))
        kept.put(("oak", 3, "b", 30))
        kept.put(("ash", 3, "b", 30))
        self.assertEqual(look.shown("rows"), [(), ("ash",), ("oak",), ("oak", "a"), ("oak", "b")])
        self.assertEqual(look.shown("columns"), [(), (3,), (7,)])
        kept.turn(0, ("elm", 8, "a", 30))
        self.assertEqual(look.shown("rows"), [(), ("ash",), ("elm",), ("oak",), ("oak", "b")])
        kept.resieve(("is", "town", "ash"))
        self.assertEqual((look.shown("rows"), look.shown("columns")), ([(), ("ash",)], [(), (3,)]))
        kept.resieve(ALL)
        self.assertEqual(look.shown("rows"), [(), ("ash",), ("elm",), ("oak",), ("oak", "b")])

    def test_a_path_comes_back_as_it_was(self):
        kept = kept_of((("kind", "town", "age"), (), (COUNT,)), WOOD)
        look = Look(kept)
        look.open_up("rows", ("a",))
        look.open_up("rows", ("b",))
        look.open_up("rows", ("b", "ash"))
        told = look.shown("rows")
        for sieve, shown in [
            (("is", "kind", "b"), [(), ("b",), ("b", "ash"), ("b", "ash", -4)]), (NEVER, [()]),
            (("is", "kind", "c"), [(), ("c",)]), (("is", "kind", "a"), [(), ("a",), ("a", "ash"), ("a", "oak")]),
        ]:
            kept.resieve(sieve)
            self.assertEqual(look.shown("rows"), shown)
        kept.resieve(ALL)
        self.assertEqual(look.shown("rows"), told)
        kept.out(3)
        self.assertNotIn(("b",), look.shown("rows"))
        kept.put(("elm", 1, "b", 1))
        self.assertEqual(look.shown("rows")[-3:], [("b",), ("b", "elm"), ("c",)])
        kept.put(WOOD[3])
        self.assertEqual(look.shown("rows")[-5:], [("b",), ("b", "ash"), ("b", "ash", -4), ("b", "elm"), ("c",)])

    def test_folded_ones_come_back_folded(self):
        kept = kept_of((("town", "kind"), (), (COUNT,)), WOOD)
        look = Look(kept)
        look.open_up("rows", ("elm",))
        look.fold("rows", ("elm",))
        look.fold("rows", ())
        kept.resieve(NEVER)
        refused(self, NoHead, look.open_up, "rows", ())
        kept.resieve(ALL)
        self.assertEqual(look.shown("rows"), [()])
        look.open_up("rows", ())
        self.assertEqual(look.shown("rows"), [(), ("ash",), ("elm",), ("oak",)])

    def test_the_last_row_and_the_first_one_again(self):
        kept = kept_of((("town", "kind"), (), (COUNT,)), WOOD[:1])
        look = Look(kept)
        look.open_up("rows", ("oak",))
        kept.out(0)
        self.assertEqual(look.shown("rows"), [()])
        refused(self, NoHead, look.fold, "rows", ())
        kept.put(WOOD[0])
        self.assertEqual(look.shown("rows"), [(), ("oak",), ("oak", "a")])

    def test_a_sort_goes_by_what_is_there_then(self):
        kept = kept_of((("town",), ("kind",), (COUNT,)), WOOD)
        look = Look(kept)
        look.sort_by("rows", (("a",), 0, True))
        self.assertEqual(look.shown("rows"), [(), ("oak",), ("ash",), ("elm",)])
        numbers = [kept.put(("elm", 1, "a", 1))[0] for row in range(3)]
        self.assertEqual(look.shown("rows"), [(), ("elm",), ("oak",), ("ash",)])
        for number in numbers:
            kept.turn(number, ("yew", 1, "a", 1))
        self.assertEqual(look.shown("rows"), [(), ("yew",), ("oak",), ("ash",), ("elm",)])
        kept.resieve(("not", ("is", "kind", "a")))
        self.assertEqual(look.shown("rows"), [(), ("ash",), ("elm",)])
        kept.resieve(NEVER)
        self.assertEqual(look.shown("rows"), [()])
        kept.resieve(ALL)
        self.assertEqual(look.shown("rows"), [(), ("yew",), ("oak",), ("ash",), ("elm",)])


class Sorted(unittest.TestCase):
    def assert_sorted(self, names, other, by, told, rows=WOOD, figures=FOUR):
        """Both sides, of a table and of a kept one."""
        for side in SIDES:
            for make in (table_of, kept_of):
                look = Look(make(two_sided(names, other, figures, side), rows))
                self.assertIs(look.sort_by(side, by), None)
                self.assertEqual(look.shown(side), [()] + [(value,) for value in told])

    def test_by_each_figure_up_and_down(self):
        # Of a, b, c: counts 3, 1, 2; sums of ages 16, -4, 0; greatest ages 9, -4, None; least towns ash, ash, elm.
        for place, up, down in [(0, "bca", "acb"), (1, "bca", "acb"), (2, "bac", "abc"), (3, "abc", "cab")]:
            self.assert_sorted(("kind",), ("town",), ((), place, False), up)
            self.assert_sorted(("kind",), ("town",), ((), place, True), down)
            self.assert_sorted(("kind",), (), ((), place, False), up)
            self.assert_sorted(("kind",), (), ((), place, True), down)
        # Unlike highs: 1, 1, 2.
        self.assert_sorted(("kind",), (), ((), 0, False), "abc", figures=(("unlike", "high"),))
        self.assert_sorted(("kind",), (), ((), 0, True), "cab", figures=(("unlike", "high"),))

    def test_by_a_path(self):
        # Counts of ash in a, b, c: 1, 1, 0; of oak 2, 0, 0; of elm 0, 0, 2.
        for path, up, down in [(("ash",), "cab", "abc"), (("oak",), "bca", "abc"), (("elm",), "abc", "cab")]:
            self.assert_sorted(("kind",), ("town",), (path, 0, False), up)
            self.assert_sorted(("kind",), ("town",), (path, 0, True), down)
        # By two values; those of high lack or not.
        self.assert_sorted(("kind",), ("town", "age"), (("oak", 5), 0, True), "abc")
        self.assert_sorted(("kind",), ("town", "age"), (("ash", -4), 0, True), "bac")
        self.assert_sorted(("kind",), ("town", "age"), (("elm", None), 0, True), "cab")
        self.assert_sorted(("town",), ("high",), ((None,), 0, True), ["oak", "ash", "elm"])

    def test_what_lacks_is_behind_either_way(self):
        # Greatest ages by oak: a 5, b and c None.
        self.assert_sorted(("kind",), ("town",), (("oak",), 2, False), "abc")
        self.assert_sorted(("kind",), ("town",), (("oak",), 2, True), "abc")
        self.assert_sorted(("kind",), ("town",), (("ash",), 2, False), "bac")
        self.assert_sorted(("kind",), ("town",), (("elm",), 3, True), "cab")
        self.assert_sorted(("kind",), ("town",), (("elm",), 3, False), "cab")

    def test_like_ones_in_the_order_of_heads(self):
        rows = [(town, 1, kind, 1) for town, kind in zip(["oak", "0", None, "ash", "elm", "z"], "abcdef")]
        for down in (False, True):
            self.assert_sorted(("town",), (), ((), 0, down), ["0", "ash", "elm", "oak", "z", None], rows)
            self.assert_sorted(("town",), ("kind",), (("c",), 2, down), [None, "0", "ash", "elm", "oak", "z"], rows)
        more = rows + [("elm", 1, "a", 1), ("0", 1, "a", 1)]
        self.assert_sorted(("town",), (), ((), 0, False), ["ash", "oak", "z", None, "0", "elm"], more)
        self.assert_sorted(("town",), (), ((), 0, True), ["0", "elm", "ash", "oak", "z", None], more)

    def test_a_value_that_lacks_is_a_head_like_others(self):
        rows = [(None, 1, "a", 1), (None, 1, "a", 1), ("oak", 1, "a", 1)]
        self.assert_sorted(("town",), (), ((), 0, True), [None, "oak"], rows)
        self.assert_sorted(("town",), (), ((), 0, False), ["oak", None], rows)

    def test_numbers_by_size_and_words_as_texts(self):
        rows = [("oak", 10, "a", 1), ("ash", 9, "b", 1), ("elm", -100, "b", 1), ("yew", 10 ** 59, "a", 1)]
        self.assert_sorted(("town",), (), ((), 1, False), ["elm", "ash", "oak", "yew"], rows)
        self.assert_sorted(("town",), (), ((), 1, True), ["yew", "oak", "ash", "elm"], rows)
        rows = [("10", 1, "a", 1), ("9", 2, "b", 1), ("a", 3, "b", 1)]
        self.assert_sorted(("age",), (), ((), 3, True), [3, 2, 1], rows)
        self.assert_sorted(("age",), (), ((), 3, False), [1, 2, 3], rows)

    def test_a_path_that_is_no_head(self):
        for down in (False, True):
            for place in range(4):
                self.assert_sorted(("kind",), ("town",), (("yew",), place, down), "abc")
                self.assert_sorted(("kind",), ("town", "age"), (("oak", 77), place, down), "abc")
                self.assert_sorted(("kind",), ("town",), ((None,), place, down), "abc")

    def test_a_path_that_becomes_a_head(self):
        kept = kept_of((("kind",), ("town",), (COUNT,)), WOOD)
        look = Look(kept)
        look.sort_by("rows", (("yew",), 0, True))
        self.assertEqual(look.shown("rows"), [(), ("a",), ("b",), ("c",)])
        number = kept.put(("yew", 1, "b", 1))[0]
        self.assertEqual(look.shown("rows"), [(), ("b",), ("a",), ("c",)])
        kept.out(number)
        self.assertEqual(look.shown("rows"), [(), ("a",), ("b",), ("c",)])

    def test_each_head_s_kids_by_themselves(self):
        look = Look(table_of((("kind", "town"), ("age",), (COUNT, ("sum", "age"))), WOOD))
        look.open_up("rows", ("a",))
        look.open_up("rows", ("c",))
        look.sort_by("rows", ((), 0, True))
        self.assertEqual(look.shown("rows"), [
            (), ("a",), ("a", "oak"), ("a", "ash"), ("c",), ("c", "elm"), ("b",),
        ])
        look.sort_by("rows", ((), 1, True))
        self.assertEqual(look.shown("rows"), [
            (), ("a",), ("a", "ash"), ("a", "oak"), ("c",), ("c", "elm"), ("b",),
        ])
        look.sort_by("rows", ((), 1, False))
        self.assertEqual(look.shown("rows"), [
            (), ("b",), ("c",), ("c", "elm"), ("a",), ("a", "oak"), ("a", "ash"),
        ])

    def test_sides_apart(self):
        look = Look(table_of((("kind",), ("town",), (COUNT,)), WOOD))
        look.sort_by("rows", (("elm",), 0, True))
        self.assertEqual(look.shown("columns"), [(), ("ash",), ("elm",), ("oak",)])
        look.sort_by("columns", (("a",), 0, True))
        self.assertEqual(look.shown("columns"), [(), ("oak",), ("ash",), ("elm",)])
        self.assertEqual(look.shown("rows"), [(), ("c",), ("a",), ("b",)])

    def test_by_none_again(self):
        for side in SIDES:
            look = Look(table_of(two_sided(("kind",), ("town",), FOUR, side), WOOD))
            told = look.shown(side)
            look.sort_by(side, ((), 0, True))
            self.assertNotEqual(look.shown(side), told)
            self.assertIs(look.sort_by(side, None), None)
            self.assertEqual(look.shown(side), told)

    def test_not_on_sorts_ahead(self):
        table = table_of((("kind", "town"), ("age", "high"), FOUR))
        orders = [None] + [(path, place, down) for path in ((), (7,), (3, None), (None,)) for place in range(4)
                           for down in (False, True)]
        plain = {}
        for by in orders:
            look = Look(table)
            open_all(look, table)
            look.sort_by("rows", by)
            plain[by] = look.shown("rows")
        chance = random.Random(27)
        for step in range(100):
            by = chance.choice(orders)
            look.sort_by("rows", by)
            self.assertEqual(look.shown("rows"), plain[by])
        self.assertGreater(len({repr(told) for told in plain.values()}), 5)

    def test_an_empty_table_and_no_names(self):
        for look in (Look(table_of((("town",), ("kind",), (COUNT,)), [])), Look(table_of(((), (), (COUNT,))))):
            for side in SIDES:
                self.assertIs(look.sort_by(side, ((), 0, True)), None)
                self.assertEqual(look.shown(side), [()])


class SortedBesidePlainWords(unittest.TestCase):
    """[27] word by word: which of two kids comes first."""

    def first(self, table, side, by, one, other):
        figures = []
        for kid in (one, other):
            box = table.box(kid, by[0]) if side == "rows" else table.box(by[0], kid)
            figures.append(box[by[1]])
        if figures[0] == figures[1]:
            return one_ahead(one, other)
        if None in figures:
            return 1 if figures[0] is None else -1
        return -1 if ahead(figures[0], figures[1]) != by[2] else 1

    def plainly(self, table, side, by, path):
        kids = sorted(table.kids(side, path), key=functools.cmp_to_key(
            lambda one, other: self.first(table, side, by, one, other)))
        return [path] + [told for kid in kids for told in self.plainly(table, side, by, kid)]

    def test_beside_them(self):
        chance = random.Random(2727)
        for turn in range(120):
            view = VIEWS[turn % len(VIEWS)]
            rows = [tuple(chance.choice([one[place] for one in GROVE]) for place in range(4)) for row in range(12)]
            table = table_of(view, rows)
            look = Look(table)
            open_all(look, table)
            for side, other in (SIDES, SIDES[::-1]):
                by = (chance.choice(table.heads(other)), chance.randrange(len(view[2])), chance.random() < 0.5)
                look.sort_by(side, by)
                self.assertEqual(look.shown(side), self.plainly(table, side, by, ()))


class NoPaths(unittest.TestCase):
    def test_refused_sorts(self):
        for make in (table_of, kept_of):
            look = Look(make((("town", "age"), ("kind",), (COUNT,))))
            look.sort_by("rows", ((), 0, True))
            look.sort_by("columns", (("oak",), 0, True))
            told = [look.shown(side) for side in SIDES]
            for path in ((7,), ("a", "a"), ("a", None), ("A",), ("",), ("-",), ("b" * 13,), (10 ** 5000,)):
                refused(self, NoHead, look.sort_by, "rows", (path, 0, False))
            for path in ((7,), ("oak", "7"), ("oak", 7, "a"), ("Oak",), ("oak", 10 ** 60)):
                refused(self, NoHead, look.sort_by, "columns", (path, 0, False))
            self.assertEqual([look.shown(side) for side in SIDES], told)

    def test_a_side_without_names(self):
        look = Look(table_of((("town",), (), (COUNT,))))
        refused(self, NoHead, look.sort_by, "rows", ((None,), 0, False))
        refused(self, NoHead, look.sort_by, "rows", (("oak",), 0, False))
        look.sort_by("columns", (("oak",), 0, False))
        self.assertEqual(look.shown("columns"), [()])


class Unchanged(unittest.TestCase):
    def test_the_table(self):
        for make in (table_of, kept_of):
            table = make((("town", "kind"), ("age",), (COUNT, ("sum", "high"))))
            told = all_told(table)
            look = Look(table)
            open_all(look, table)
            look.fold("rows", ("oak",))
            look.sort_by("rows", ((7,), 1, True))
            look.sort_by("columns", (("oak",), 0, True))
            look.shown("rows")
            look.shown("columns")
            self.assertEqual(all_told(table), told)

    def test_lists_that_were_told(self):
        look = Look(kept_of((("town", "kind"), ("age",), (COUNT,))))
        for by in (None, ((), 0, True)):
            for side in SIDES:
                look.sort_by(side, by)
                told = list(look.shown(side))
                answer = look.shown(side)
                self.assertIs(type(answer), list)
                answer.reverse()
                answer.append(("more",))
                self.assertEqual(look.shown(side), told)
                answer = look.shown(side)
                look.fold(side, ())
                self.assertEqual(answer, told)
                look.open_up(side, ())

    def test_lists_of_the_table_that_a_look_told(self):
        table = table_of((("town",), (), (COUNT,)))
        Look(table).shown("rows").clear()
        self.assertEqual(len(table.heads("rows")), 6)


class Interface(unittest.TestCase):
    def test_arguments(self):
        told = {"open_up": ["side", "path"], "fold": ["side", "path"], "sort_by": ["side", "by"], "shown": ["side"]}
        for name, arguments in told.items():
            self.assertEqual(list(inspect.signature(getattr(Look, name)).parameters), ["self"] + arguments)
        self.assertEqual(list(inspect.signature(Look).parameters), ["table"])

    def test_kinds(self):
        look = Look(table_of((("town",), ("age",), (COUNT,))))
        for side in SIDES:
            self.assertIs(type(look.shown(side)), list)
            self.assertEqual({type(path) for path in look.shown(side)}, {tuple})


if __name__ == "__main__":
    unittest.main()
