"""[28] a look's lines, sign for sign; [2] and [3] of them."""

import inspect
import random
import unittest

from crosshall.errors import NoHead
from crosshall.kept import Kept
from crosshall.looks import Look
from crosshall.showing import lines_of, path_text
from helper import ALL, COUNT, GROVE, NEVER, TREES, VIEWS, all_told, kept_of, open_all, refused, table_of

WOOD = [
    ("oak", 5, "a", 1), ("ash", 9, "a", 1), ("oak", 2, "a", None), ("ash", -4, "b", 7), (None, None, "b", 7),
]


class PathTexts(unittest.TestCase):
    def test_values_parted(self):
        for path, text in [
            ((), "all"), (("oak",), "oak"), (("oak", 7), "oak/7"), (("oak", 7, "a"), "oak/7/a"), ((-5,), "-5"),
            ((0, "0"), "0/0"), ((10 ** 60 - 1,), "9" * 60), ((-(10 ** 59), "z" * 12), "-1" + "0" * 59 + "/" + "z" * 12),
        ]:
            self.assertEqual(path_text(path), text)

    def test_what_lacks(self):
        for path, text in [((None,), "-"), ((None, None), "-/-"), (("oak", None), "oak/-"), ((None, -1), "-/-1")]:
            self.assertEqual(path_text(path), text)

    def test_a_first_value_like_the_whole(self):
        for path, text in [(("all",), "all"), (("all", "all"), "all/all"), (("none", "up", "rows"), "none/up/rows")]:
            self.assertEqual(path_text(path), text)


class Lines(unittest.TestCase):
    def test_at_first(self):
        view = (("town",), ("kind",), (COUNT, ("sum", "age")))
        for make in (table_of, kept_of):
            self.assertEqual(lines_of(Look(make(view, WOOD))), [
                "|all|a|b", "all|5,12|3,16|2,-4", "ash|2,5|1,9|1,-4", "oak|2,7|2,7|0,0", "-|1,0|0,0|1,0",
            ])

    def test_no_rows(self):
        view = (("town",), ("kind",), (COUNT, ("greatest", "town"), ("sum", "age"), ("least", "age")))
        for table in (Kept(TREES, view, ALL), table_of(view, []), table_of(view, WOOD, NEVER)):
            self.assertEqual(lines_of(Look(table)), ["|all", "all|0,-,0,-"])

    def test_no_names(self):
        self.assertEqual(lines_of(Look(table_of(((), (), (COUNT,)), WOOD))), ["|all", "all|5"])
        told = ["|all", "all|5", "ash|2", "oak|2", "-|1"]
        self.assertEqual(lines_of(Look(table_of((("town",), (), (COUNT,)), WOOD))), told)
        self.assertEqual(lines_of(Look(table_of(((), ("town",), (COUNT,)), WOOD))), ["|all|ash|oak|-", "all|5|2|2|1"])

    def test_nested_heads(self):
        table = table_of((("kind", "town", "age"), ("high",), (COUNT,)), WOOD)
        look = Look(table)
        open_all(look, table)
        self.assertEqual(lines_of(look), [
            "|all|1|7|-", "all|5|2|2|1",
            "a|3|2|0|1", "  ash|1|1|0|0", "    9|1|1|0|0", "  oak|2|1|0|1", "    2|1|0|0|1", "    5|1|1|0|0",
            "b|2|0|2|0", "  ash|1|0|1|0", "    -4|1|0|1|0", "  -|1|0|1|0", "    -|1|0|1|0",
        ])

    def test_nested_columns(self):
        look = Look(table_of((("kind",), ("town", "age", "high"), (COUNT,)), WOOD))
        look.open_up("columns", ("oak",))
        look.open_up("columns", ("oak", 2))
        look.open_up("columns", (None,))
        self.assertEqual(lines_of(look), [
            "|all|ash|oak|oak/2|oak/2/-|oak/5|-|-/-", "all|5|2|2|1|1|1|1|1", "a|3|1|2|1|1|1|0|0", "b|2|1|0|0|0|0|1|1",
        ])

    def test_each_figure(self):
        told = {
            COUNT: ["all|5", "a|3", "b|2"], ("sum", "age"): ["all|12", "a|16", "b|-4"],
            ("greatest", "town"): ["all|oak", "a|oak", "b|ash"], ("least", "high"): ["all|1", "a|1", "b|7"],
            ("unlike", "town"): ["all|2", "a|2", "b|1"], ("least", "age"): ["all|-4", "a|2", "b|-4"],
        }
        for figure, lines in told.items():
            self.assertEqual(lines_of(Look(table_of((("kind",), (), (figure,)), WOOD)))[1:], lines)

    def test_four_figures(self):
        figures = (COUNT, ("least", "age"), COUNT, ("greatest", "age"))
        self.assertEqual(lines_of(Look(table_of(((), ("town",), figures), WOOD))), [
            "|all|ash|oak|-", "all|5,-4,5,9|2,-4,2,9|2,2,2,5|1,-,1,-",
        ])

    def test_great_numbers(self):
        great = 10 ** 60 - 1
        look = Look(table_of((("age",), ("high",), (("sum", "age"),)), [(None, great, None, -great)] * 10))
        self.assertEqual(lines_of(look), [
            "|all|-" + "9" * 60, f"all|{great * 10}|{great * 10}", "9" * 60 + f"|{great * 10}|{great * 10}",
        ])

    def test_a_first_value_like_the_whole(self):
        rows = [("all", 1, "all", 1), ("none", 1, None, 1)]
        look = Look(table_of((("town", "age"), ("kind", "high"), (COUNT,)), rows))
        look.open_up("rows", ("all",))
        look.open_up("columns", ("all",))
        self.assertEqual(lines_of(look), [
            "|all|all|all/1|-", "all|2|1|1|1", "all|1|1|1|0", "  1|1|1|1|0", "none|1|0|0|1",
        ])

    def test_folded_and_sorted(self):
        look = Look(table_of((("kind", "town"), (), (COUNT, ("sum", "age"))), WOOD))
        look.open_up("rows", ("a",))
        look.sort_by("rows", ((), 1, False))
        self.assertEqual(lines_of(look), ["|all", "all|5,12", "b|2,-4", "a|3,16", "  oak|2,7", "  ash|1,9"])
        look.fold("rows", ("a",))
        look.sort_by("rows", None)
        self.assertEqual(lines_of(look), ["|all", "all|5,12", "a|3,16", "b|2,-4"])
        look.fold("rows", ())
        self.assertEqual(lines_of(look), ["|all", "all|5,12"])

    def test_columns_sorted(self):
        look = Look(table_of((("town",), ("kind",), (COUNT,)), WOOD))
        look.sort_by("columns", (("ash",), 0, True))
        self.assertEqual(lines_of(look)[0], "|all|a|b")
        look.sort_by("columns", ((None,), 0, True))
        self.assertEqual(lines_of(look), ["|all|b|a", "all|5|2|3", "ash|2|1|1", "oak|2|0|2", "-|1|1|0"])

    def test_a_table_that_changes(self):
        kept = kept_of((("town",), ("kind",), (COUNT,)), WOOD[:1])
        look = Look(kept)
        self.assertEqual(lines_of(look), ["|all|a", "all|1|1", "oak|1|1"])
        kept.put(("ash", 1, "b", 1))
        self.assertEqual(lines_of(look), ["|all|a|b", "all|2|1|1", "ash|1|0|1", "oak|1|1|0"])
        kept.resieve(("is", "kind", "b"))
        self.assertEqual(lines_of(look), ["|all|b", "all|1|1", "ash|1|1"])

    def test_beside_its_words(self):
        chance = random.Random(28)
        for turn in range(60):
            view = VIEWS[turn % len(VIEWS)]
            table = table_of(view, [chance.choice(GROVE) for row in range(chance.randrange(12))])
            look = Look(table)
            for side in ("rows", "columns"):
                for path in table.heads(side):
                    if table.kids(side, path) and chance.random() < 0.6:
                        look.open_up(side, path)
            self.assertEqual(lines_of(look), self.by_words(look, table))

    def by_words(self, look, table):
        def value_text(value):
            return "-" if value is None else f"{value}"

        def head_text(path):
            return "  " * (len(path) - 1) + value_text(path[-1]) if path != () else "all"

        columns = look.shown("columns")
        told = ["|" + "|".join("/".join(map(value_text, path)) if path else "all" for path in columns)]
        for path in look.shown("rows"):
            boxes = [",".join(map(value_text, table.box(path, other))) for other in columns]
            told.append("|".join([head_text(path)] + boxes))
        return told


class Unchanged(unittest.TestCase):
    def test_the_look_and_its_table(self):
        kept = kept_of((("town", "kind"), ("age",), (COUNT,)))
        look = Look(kept)
        look.sort_by("rows", ((7,), 0, True))
        told = (all_told(kept), look.shown("rows"), look.shown("columns"))
        self.assertEqual(lines_of(look), lines_of(look))
        self.assertEqual((all_told(kept), look.shown("rows"), look.shown("columns")), told)

    def test_lists_that_were_told(self):
        kept = kept_of((("town",), (), (COUNT,)), WOOD)
        look = Look(kept)
        answer = lines_of(look)
        told = list(answer)
        answer.reverse()
        answer.append("more")
        self.assertEqual(lines_of(look), told)
        answer = lines_of(look)
        kept.out(0)
        look.fold("rows", ())
        self.assertEqual(answer, told)

    def test_a_refused_deed(self):
        look = Look(table_of((("town",), (), (COUNT,)), WOOD))
        told = lines_of(look)
        refused(self, NoHead, look.open_up, "rows", ("oak",))
        refused(self, NoHead, look.sort_by, "rows", (("oak",), 0, True))
        self.assertEqual(lines_of(look), told)


class Interface(unittest.TestCase):
    def test_arguments(self):
        self.assertEqual(list(inspect.signature(path_text).parameters), ["path"])
        self.assertEqual(list(inspect.signature(lines_of).parameters), ["look"])

    def test_kinds(self):
        told = lines_of(Look(table_of((("town",), ("kind",), (COUNT,)))))
        self.assertIs(type(told), list)
        self.assertEqual({type(line) for line in told}, {str})


if __name__ == "__main__":
    unittest.main()
