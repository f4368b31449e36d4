"""[29] a desk and its lines, sign for sign; [2], [3], [21] and [23] as far as it tells of them."""

import inspect
import random
import unittest
from fractions import Fraction
from math import ceil, floor

from crosshall.desk import Desk
from crosshall.errors import (
    CrossError, NoField, NoFields, NoHead, NoKind, NoLine, NoRow, NoSieve, NoSuch, NoVeil, NoView, NoWhole,
)
from crosshall.kept import Kept
from crosshall.looks import Look
from crosshall.showing import lines_of, path_text
from crosshall.sieve_texts import shown_sieve
from crosshall.tables import Table
from crosshall.values import written
from crosshall.veils import told_outright
from helper import ALL, COUNT, GROVE, TREES, VIEWS, every_box, random_sieve, refused

VIEW = (("town", "age"), ("kind",), (COUNT, ("sum", "high")))
WOOD = ["oak 7 a 30", "ash 3 b -", "oak - b -5", "- 7 a 0", "oak 7 b 30"]
SHOWN = "|all|a|b\nall|5,55|2,30|3,25\nash|1,0|0,0|1,0\noak|3,55|1,30|2,25\n-|1,0|1,0|0,0"
GREAT = "9" * 60
# Texts that write no number from 0 on of at most sixty figures.
NO_NUMBERS = ["", "-", "-1", "-0", "00", "01", "+1", "1.0", "x", "1x", "1_0", "N", "1\n", "-" + GREAT, GREAT + "9"]


def desk_of(view, rows, fields=TREES):
    desk = Desk(fields, view)
    for row in rows:
        desk.say("put " + row)
    return desk


def grid_desk(grid):
    """A desk whose grid for the figure at 1 is this one, of numbers that are not all 0 in any row or column."""
    fields = [("row", "number"), ("column", "number"), ("many", "number")]
    desk = Desk(fields, (("row",), ("column",), (COUNT, ("sum", "many"))))
    for row, numbers in enumerate(grid):
        for column, number in enumerate(numbers):
            desk.say(f"put {row} {column} {number}")
    return desk


def all_answers(desk):
    """What shows whether anything was changed: the rows with their numbers, and the look's lines."""
    told = [desk.say("show"), desk.say("rows all all")]
    for number in range(15):
        try:
            told.append(desk.say(f"row {number}"))
        except NoSuch:
            told.append(None)
    return told


class Made(unittest.TestCase):
    def test_of_nothing(self):
        desk = Desk(TREES, VIEW)
        self.assertEqual(desk.say("show"), "|all\nall|0,0")
        self.assertEqual(desk.say("rows all all"), "none")

    def test_all_rows_are_let_by_at_first(self):
        desk = desk_of(VIEW, WOOD)
        self.assertEqual(desk.say("rows all all"), "0 1 2 3 4")

    def test_refused_as_a_kept_table(self):
        for fields in ([], None, tuple(TREES), [("A", "word")], [("a", "word")] * 2):
            refused(self, NoFields, Desk, fields, VIEW)
            refused(self, NoFields, Desk, fields, ())
        for view in ((), ((), (), ()), (("town",), ("town",), (COUNT,))):
            refused(self, NoView, Desk, TREES, view)
        self.assertEqual(refused(self, NoField, Desk, TREES, (("x",), (), (COUNT,))).name, "x")
        self.assertEqual(refused(self, NoKind, Desk, TREES, ((), (), (("sum", "kind"),))).name, "kind")


class Rows(unittest.TestCase):
    def test_put(self):
        desk = Desk(TREES, VIEW)
        for number, row in enumerate(WOOD):
            self.assertEqual(desk.say("put " + row), str(number))
        for number, row in enumerate(WOOD):
            self.assertEqual(desk.say(f"row {number}"), row)

    def test_out(self):
        desk = desk_of(VIEW, WOOD)
        self.assertEqual(desk.say("out 2"), "ok")
        self.assertEqual(desk.say("rows all all"), "0 1 3 4")
        self.assertEqual(refused(self, NoSuch, desk.say, "row 2").number, 2)
        self.assertEqual(refused(self, NoSuch, desk.say, "out 2").number, 2)
        self.assertEqual(desk.say("put " + WOOD[2]), "5")

    def test_turn(self):
        desk = desk_of(VIEW, WOOD)
        self.assertEqual(desk.say("turn 1 elm -5 z 0"), "ok")
        self.assertEqual(desk.say("row 1"), "elm -5 z 0")
        self.assertEqual(desk.say("rows elm all"), "1")
        self.assertEqual(desk.say("rows ash all"), "none")

    def test_great_numbers_and_long_words(self):
        desk = Desk(TREES, VIEW)
        row = f"{'z' * 12} -{GREAT} 0 {GREAT}"
        self.assertEqual(desk.say("put " + row), "0")
        self.assertEqual(desk.say("row 0"), row)
        self.assertEqual(desk.say("box all all"), f"1,{GREAT}")
        self.assertEqual(desk.say(f"box {'z' * 12}/-{GREAT} 0"), f"1,{GREAT}")

    def test_words_that_stand_in_lines(self):
        desk = Desk(TREES, VIEW)
        for number, word in enumerate(["all", "none", "rows", "up", "put", "show", "7", "007"]):
            self.assertEqual(desk.say(f"put {word} 1 {word} 1"), str(number))
            self.assertEqual(desk.say(f"row {number}"), f"{word} 1 {word} 1")
            # Where it is a column, `all` is read to (): so the box has all rows of that town.
            self.assertEqual(desk.say(f"rows {word}/1 {word}"), str(number))

    def test_rows_that_are_refused(self):
        desk = desk_of(VIEW, WOOD)
        told = all_answers(desk)
        for row, place in [
            ("oak", 1), ("oak 7", 2), ("oak 7 a", 3), ("oak 7 a 1 1", 4), ("oak x a 1", 1), ("Oak 7 a 1", 0),
            ("- - - - -", 4), ("oak 07 a 1", 1), ("oak -0 a 1", 1), ("oak 7 -a 1", 2), ("- x - - -", 1), ("", 0),
            (" 7 a 1", 0), ("oak  a 1", 1), ("oak 7 a ", 3), ("oak 7 a 1 ", 4), ("oak 7  a 1", 2), ("--", 0),
            ("oak 1" + "0" * 60 + " a 1", 1), ("a" * 13, 0), ("oak\n", 0), ("oak 7\n a 1", 1), ("oak 7 x", 3),
            ("oak 7 a 1 " + "x " * 50 + "x", 4), ("none", 1), ("-", 1), ("- -", 2), ("oak 7 a x y", 3),
        ]:
            for line in ("put ", "turn 1 "):
                self.assertEqual(refused(self, NoRow, desk.say, line + row).place, place, line + row)
                # NoSuch goes ahead.
                self.assertEqual(refused(self, NoSuch, desk.say, "turn 5 " + row).number, 5)
            self.assertEqual(all_answers(desk), told)
        self.assertEqual(desk.say("put " + WOOD[0]), "5")

    def test_numbers_of_no_row(self):
        desk = desk_of(VIEW, WOOD)
        desk.say("out 0")
        told = all_answers(desk)
        for number in ("0", "5", GREAT):
            for line in (f"out {number}", f"row {number}", f"turn {number} oak 7 a 30", f"turn {number} x"):
                self.assertEqual(refused(self, NoSuch, desk.say, line).number, int(number))
        self.assertEqual(all_answers(desk), told)


class Sieves(unittest.TestCase):
    def test_texts(self):
        desk = desk_of(VIEW, WOOD)
        for text, numbers in [
            ("town=oak", "0 2 4"), ("(&town=oak&!(|age<7|age?))", "0 4"), ("!town=oak", "1 3"), ("age>6", "0 3 4"),
            ("high?", "1"), ("(|)", "none"), ("(&)", "0 1 2 3 4"), ("high=-5", "2"), ("!!town?", "3"),
        ]:
            self.assertEqual(desk.say("sieve " + text), "ok")
            self.assertEqual(desk.say("rows all all"), numbers)
        self.assertEqual([desk.say(f"row {number}") for number in range(5)], WOOD)

    def test_deeds_behind_it(self):
        desk = desk_of(VIEW, WOOD)
        desk.say("sieve town=oak")
        self.assertEqual(desk.say("put elm 1 a 1"), "5")
        self.assertEqual(desk.say("put oak 1 c 1"), "6")
        self.assertEqual(desk.say("show"), "|all|a|b|c\nall|4,56|1,30|2,25|1,1\noak|4,56|1,30|2,25|1,1")

    def test_refused(self):
        desk = desk_of(VIEW, WOOD)
        desk.say("sieve town=oak")
        told = all_answers(desk)
        for text in ("", "oak", "town==oak", "(&", "town=oak)", "age<x", "all", "none", "(&town=oak&)", "age<-0",
                     "town=", "!" * 12 + "town?", "town=oak\n", "town<7&", "x", "(|age<7|x=)"):
            refused(self, NoSieve, desk.say, "sieve " + text)
        for text, error, name in [
            ("x=oak", NoField, "x"), ("town<7", NoKind, "town"), ("age=oak", NoKind, "age"), ("town=-", NoKind, "town"),
            ("(|age=x|y?)", NoKind, "age"), ("(|y?|age=x)", NoField, "y"), ("age=07", NoKind, "age"),
        ]:
            self.assertEqual(refused(self, error, desk.say, "sieve " + text).name, name)
        self.assertEqual(all_answers(desk), told)

    def test_of_one_word(self):
        desk = desk_of(VIEW, WOOD)
        for line in ("sieve", "sieve town=oak town=oak", "sieve  town=oak", "sieve town=oak ", "sieve  "):
            refused(self, NoLine, desk.say, line)
        refused(self, NoSieve, desk.say, "sieve ")

    def test_random_ones(self):
        chance = random.Random(29)
        desk = Desk(TREES, VIEW)
        for row in GROVE:
            desk.say("put " + " ".join(written(value) for value in row))
        kept = Kept(TREES, VIEW, ALL)
        for row in GROVE:
            kept.put(row)
        for turn in range(60):
            sieve = random_sieve(chance, TREES, 3)
            kept.resieve(sieve)
            self.assertEqual(desk.say("sieve " + shown_sieve(sieve)), "ok")
            self.assertEqual(desk.say("show").split("\n"), lines_of(Look(kept)))


class Boxes(unittest.TestCase):
    def test_figures(self):
        desk = desk_of(VIEW, WOOD)
        for paths, figures, numbers in [
            ("all all", "5,55", "0 1 2 3 4"), ("oak all", "3,55", "0 2 4"), ("oak/7 all", "2,60", "0 4"),
            ("oak/7 b", "1,30", "4"), ("oak/- all", "1,-5", "2"), ("- a", "1,0", "3"), ("-/7 a", "1,0", "3"),
            ("all b", "3,25", "1 2 4"), ("ash a", "0,0", "none"), ("yew all", "0,0", "none"), ("-/- -", "0,0", "none"),
            ("oak/-7 zzz", "0,0", "none"), (f"oak/{GREAT} all", "0,0", "none"),
        ]:
            self.assertEqual(desk.say("box " + paths), figures)
            self.assertEqual(desk.say("rows " + paths), numbers)

    def test_each_figure(self):
        figures = (COUNT, ("greatest", "town"), ("least", "age"), ("unlike", "kind"))
        desk = desk_of((("high",), (), figures), WOOD)
        for path, text in [("30", "2,oak,7,2"), ("-5", "1,oak,-,1"), ("-", "1,ash,3,1"), ("1", "0,-,-,0"),
                           ("0", "1,-,7,1"), ("all", "5,oak,3,2")]:
            self.assertEqual(desk.say(f"box {path} all"), text)

    def test_a_side_without_names(self):
        desk = desk_of(((), (), (COUNT,)), WOOD)
        self.assertEqual(desk.say("box all all"), "5")
        for paths in ("- all", "all -", "oak all", " all", "all /"):
            refused(self, NoHead, desk.say, "box " + paths)

    def test_what_is_read_to_no_path(self):
        desk = desk_of(VIEW, WOOD)
        told = all_answers(desk)
        for paths in [
            "oak/7/a all", "oak/x all", "Oak all", "oak/ all", "/ all", "/oak all", " all", "all/all all", "oak/07 all",
            "oak/-0 all", "-/-/- all", "all a/a", "all a/-", "all A", "all ", "all a/", "all |", f"oak/1{'0' * 60} all",
            "oak\n all", "all -a", "-- all", "rows/rows up", "oak/7/ all", "x/x X",
        ]:
            for word in ("box ", "rows "):
                refused(self, NoHead, desk.say, word + paths)
        self.assertEqual(all_answers(desk), told)

    def test_the_whole_by_name(self):
        desk = desk_of(VIEW, ["all 1 all 1", "all 2 b 1", "oak 1 all 1"])
        self.assertEqual(desk.say("rows all all"), "0 1 2")
        self.assertEqual(desk.say("rows all/1 all"), "0")
        self.assertEqual(desk.say("rows all b"), "1")
        self.assertEqual(desk.say("show"), "|all|all|b\nall|3,3|2,2|1,1\nall|2,2|1,1|1,1\noak|1,1|1,1|0,0")


class Looks(unittest.TestCase):
    def test_show(self):
        self.assertEqual(desk_of(VIEW, WOOD).say("show"), SHOWN)

    def test_open_and_fold(self):
        desk = desk_of(VIEW, WOOD)
        self.assertEqual(desk.say("open rows oak"), "ok")
        opened = SHOWN.replace("\n-", "\n  7|2,60|1,30|1,30\n  -|1,-5|0,0|1,-5\n-")
        self.assertEqual(desk.say("show"), opened)
        self.assertEqual(desk.say("fold columns all"), "ok")
        self.assertEqual(desk.say("show"), "|all\nall|5,55\nash|1,0\noak|3,55\n  7|2,60\n  -|1,-5\n-|1,0")
        self.assertEqual(desk.say("fold rows oak"), "ok")
        self.assertEqual(desk.say("open rows -"), "ok")
        self.assertEqual(desk.say("show"), "|all\nall|5,55\nash|1,0\noak|3,55\n-|1,0\n  7|1,0")
        self.assertEqual(desk.say("fold rows all"), "ok")
        self.assertEqual(desk.say("fold rows all"), "ok")
        self.assertEqual(desk.say("show"), "|all\nall|5,55")
        for line in ("open rows all", "fold rows -", "open columns all", "open rows oak"):
            self.assertEqual(desk.say(line), "ok")
        self.assertEqual(desk.say("show"), opened)

    def test_a_path_comes_back_as_it_was(self):
        desk = desk_of(VIEW, WOOD)
        desk.say("open rows oak")
        told = desk.say("show")
        desk.say("sieve town=ash")
        refused(self, NoHead, desk.say, "fold rows oak")
        self.assertEqual(desk.say("show"), "|all|b\nall|1,0|1,0\nash|1,0|1,0")
        desk.say("sieve (&)")
        self.assertEqual(desk.say("show"), told)

    def test_paths_that_are_no_heads_or_have_no_kids(self):
        desk = desk_of(VIEW, WOOD)
        told = all_answers(desk)
        for path in ("rows yew", "rows oak/7", "rows oak/8", "rows oak/7/a", "rows Oak", "rows ", "columns a",
                     "columns z", "columns a/a", "columns -", "columns 7"):
            for word in ("open ", "fold "):
                refused(self, NoHead, desk.say, word + path)
        self.assertEqual(all_answers(desk), told)
        for line in ("open rows all", "fold columns all"):
            refused(self, NoHead, Desk(TREES, VIEW).say, line)

    def test_sort(self):
        desk = desk_of(VIEW, WOOD)
        for words, order in [
            ("rows all 0 up", "all ash - oak"), ("rows all 0 down", "all oak ash -"),
            ("rows a 1 down", "all oak ash -"), ("rows b 1 up", "all ash - oak"),
            ("rows b 0 down", "all oak ash -"), ("rows a 0 up", "all ash oak -"),
            ("rows z 0 down", "all ash oak -"), ("rows a 0 down", "all oak - ash"), ("rows none", "all ash oak -"),
        ]:
            self.assertEqual(desk.say("sort " + words), "ok")
            self.assertEqual([line.partition("|")[0] for line in desk.say("show").split("\n")][1:], order.split(" "))
        for words, top in [
            ("columns all 0 down", "|all|b|a"), ("columns oak/7 0 down", "|all|a|b"),
            ("columns oak/- 0 down", "|all|b|a"), ("columns oak 1 up", "|all|b|a"),
            ("columns none", "|all|a|b"), ("columns -/7 0 up", "|all|b|a"),
        ]:
            self.assertEqual(desk.say("sort " + words), "ok")
            self.assertEqual(desk.say("show").partition("\n")[0], top)

    def test_sort_by_words_like_those_of_lines(self):
        desk = desk_of(VIEW, ["ash 1 none 1", "oak 1 up 1", "elm 1 down 1", "elm 1 down 1"])
        for word, order in [("none", "all ash elm oak"), ("up", "all oak ash elm"), ("down", "all elm ash oak")]:
            self.assertEqual(desk.say(f"sort rows {word} 0 down"), "ok")
            self.assertEqual([line.partition("|")[0] for line in desk.say("show").split("\n")][1:], order.split(" "))

    def test_refused_sorts(self):
        desk = desk_of(VIEW, WOOD)
        desk.say("sort rows a 0 down")
        desk.say("sort columns all 0 down")
        told = all_answers(desk)
        for words in ("rows oak/7 0 up", "rows A 0 up", "rows a/a 1 down", "rows  0 up", "columns oak/7/a 0 up",
                      "columns oak/x 0 down", "columns OAK 1 up", "columns oak/ 0 up"):
            refused(self, NoHead, desk.say, "sort " + words)
        self.assertEqual(all_answers(desk), told)

    def test_beside_a_look_of_its_own(self):
        for turn in range(40):
            chance = random.Random(turn)
            view = VIEWS[turn % len(VIEWS)]
            desk = Desk(TREES, view)
            kept = Kept(TREES, view, ALL)
            look = Look(kept)
            for step in range(30):
                self.one_deed(chance, desk, kept, look)
                self.assertEqual(desk.say("show"), "\n".join(lines_of(look)))

    def one_deed(self, chance, desk, kept, look):
        side, other = chance.choice([("rows", "columns"), ("columns", "rows")])
        path = chance.choice(kept.heads(side))
        deed = chance.choice(["put", "put", "put", "out", "open", "fold", "sort", "box"])
        if deed == "put":
            row = tuple(chance.choice([one[place] for one in GROVE]) for place in range(4))
            self.assertEqual(desk.say("put " + " ".join(written(value) for value in row)), str(kept.put(row)[0]))
        elif deed == "out" and kept.numbers():
            number = chance.choice(kept.numbers())
            kept.out(number)
            self.assertEqual(desk.say(f"out {number}"), "ok")
        elif deed in ("open", "fold") and kept.kids(side, path):
            (look.open_up if deed == "open" else look.fold)(side, path)
            self.assertEqual(desk.say(f"{deed} {side} {path_text(path)}"), "ok")
        elif deed == "sort":
            by = (path, chance.randrange(len(kept.view()[2])), chance.random() < 0.5)
            look.sort_by(other, by)
            way = "down" if by[2] else "up"
            self.assertEqual(desk.say(f"sort {other} {path_text(path)} {by[1]} {way}"), "ok")
        elif deed == "box":
            one, two = chance.choice(kept.heads("rows")), chance.choice(kept.heads("columns"))
            words = f"{path_text(one)} {path_text(two)}"
            self.assertEqual(desk.say("box " + words), ",".join(written(figure) for figure in kept.box(one, two)))
            told = " ".join(written(number) for number in kept.opened(one, two))
            self.assertEqual(desk.say("rows " + words), told or "none")


class Parts(unittest.TestCase):
    def assert_parts(self, grid, many, text):
        """The text, held against the words of [21] without groups."""
        told = [[int(number) for number in row.split(",")] for row in text.split(";")]
        self.assertEqual(text, ";".join(",".join(str(number) for number in row) for row in told))
        self.assertEqual([len(row) for row in told], [len(row) for row in grid])
        whole = sum(sum(row) for row in grid)
        lots = [[box] for box in every_box(grid)] + [every_box(grid)]
        lots += [[box for box in every_box(grid) if box[0] == row] for row in range(len(grid))]
        lots += [[box for box in every_box(grid) if box[1] == column] for column in range(len(grid[0]))]
        for lot in lots:
            due = Fraction(sum(grid[row][column] for row, column in lot) * many, whole)
            self.assertIn(sum(told[row][column] for row, column in lot), (floor(due), ceil(due)))
        self.assertEqual(sum(sum(row) for row in told), many)

    def test_grids(self):
        chance = random.Random(21)
        for turn in range(60):
            size = (chance.randrange(1, 6), chance.randrange(1, 6))
            grid = [[chance.randrange(1, 9) for column in range(size[1])] for row in range(size[0])]
            many = chance.choice([0, 1, 5, 100, 10 ** 60 - 1])
            self.assert_parts(grid, many, grid_desk(grid).say(f"parts {many} 1"))

    def test_sign_for_sign(self):
        self.assertEqual(grid_desk([[1, 3], [4, 2]]).say("parts 10 1"), "1,3;4,2")
        self.assertEqual(grid_desk([[1, 3], [4, 2]]).say("parts 20 1"), "2,6;8,4")
        self.assertEqual(grid_desk([[1, 3], [4, 2]]).say("parts 8 0"), "2,2;2,2")
        self.assertEqual(grid_desk([[1, 3, 4]]).say("parts 0 1"), "0,0,0")
        self.assertEqual(grid_desk([[5]]).say("parts " + GREAT + " 1"), GREAT)
        self.assertEqual(desk_of(((), (), (COUNT,)), WOOD).say("parts 7 0"), "7")

    def test_by_the_table_s_bottom_heads(self):
        desk = desk_of(VIEW, WOOD)
        # The bottom heads of rows are ash/3, oak/7, oak/- and -/7.
        self.assertEqual(desk.say("parts 5 0"), "0,1;1,1;0,1;1,0")
        for line in ("sort rows all 0 down", "sort columns all 0 down", "fold rows all", "fold columns all"):
            desk.say(line)
        self.assertEqual(desk.say("parts 10 0"), "0,2;2,2;0,2;2,0")
        desk.say("sieve town=oak")
        self.assertEqual(desk.say("parts 3 0"), "1,1;0,1")
        desk.say("put oak 7 a 1")
        self.assertEqual(desk.say("parts 4 0"), "2,1;0,1")

    def test_no_whole(self):
        desk = Desk(TREES, ((), (), (COUNT, ("sum", "age"))))
        refused(self, NoWhole, desk.say, "parts 5 0")
        desk.say("put oak - a 1")
        self.assertEqual(desk.say("parts 5 0"), "5")
        refused(self, NoWhole, desk.say, "parts 5 1")
        desk.say("sieve (|)")
        refused(self, NoWhole, desk.say, "parts 0 0")


class Veils(unittest.TestCase):
    def assert_veil(self, grid, few, text):
        """The text, held against the words of [23]."""
        small = [(row, column) for row, column in every_box(grid) if 1 <= grid[row][column] <= few]
        if text == "none":
            self.assertEqual(small, [])
            return
        told = [tuple(int(place) for place in box.split("/")) for box in text.split(" ")]
        self.assertEqual(text, " ".join(f"{row}/{column}" for row, column in sorted(set(told))))
        self.assertTrue(set(small) <= set(told) <= set(every_box(grid)))
        self.assertFalse(set(told_outright(grid, told)) & set(small))
        for box in told:
            if box not in small:
                self.assertTrue(set(told_outright(grid, [other for other in told if other != box])) & set(small))

    def test_grids(self):
        chance = random.Random(23)
        for turn in range(40):
            size = (chance.randrange(2, 6), chance.randrange(2, 6))
            grid = [[chance.randrange(1, 9) for column in range(size[1])] for row in range(size[0])]
            few = chance.choice([1, 2, 3, 10 ** 60 - 1])
            self.assert_veil(grid, few, grid_desk(grid).say(f"veil {few} 1"))

    def test_sign_for_sign(self):
        self.assertEqual(grid_desk([[1, 5], [6, 7]]).say("veil 1 1"), "0/0 0/1 1/0 1/1")
        self.assertEqual(grid_desk([[5, 5], [6, 7]]).say("veil 1 1"), "none")
        self.assertEqual(grid_desk([[5, 5], [6, 7]]).say(f"veil {GREAT} 1"), "0/0 0/1 1/0 1/1")
        self.assertEqual(grid_desk([[9, 9], [9, 9]]).say("veil 1 0"), "0/0 0/1 1/0 1/1")

    def test_told_outright(self):
        for grid, cell in [([[1, 5]], (0, 0)), ([[5, 1, 2]], (0, 1)), ([[9], [2]], (1, 0))]:
            told = refused(self, NoVeil, grid_desk(grid).say, "veil 2 1").cell
            self.assertEqual((told, type(told)), (cell, tuple))

    def test_by_the_table_s_bottom_heads(self):
        rows = ["ash 1 a 9", "ash 1 b 9", "oak 1 a 1", "oak 1 b 9"]
        desk = desk_of((("town",), ("kind",), (("sum", "high"), COUNT)), rows)
        told = "0/0 0/1 1/0 1/1"
        self.assertEqual(desk.say("veil 1 0"), told)
        for line in ("sort rows all 0 up", "sort columns all 0 up", "fold rows all", "open rows all"):
            desk.say(line)
        self.assertEqual(desk.say("veil 1 0"), told)
        desk.say("put ash 1 c 9")
        desk.say("put oak 1 c 9")
        self.assert_veil([[9, 9, 9], [1, 9, 9]], 1, desk.say("veil 1 0"))
        desk.say("sieve high>1")
        self.assertEqual(desk.say("veil 1 0"), "none")
        self.assertEqual(refused(self, NoVeil, desk_of(((), (), (COUNT,)), ["- - - -"]).say, "veil 1 0").cell, (0, 0))

    def test_nothing_there(self):
        self.assertEqual(Desk(TREES, ((), (), (COUNT,))).say("veil 5 0"), "none")


class NoLines(unittest.TestCase):
    def assert_no_lines(self, lines):
        desk = desk_of(VIEW, WOOD)
        desk.say("open rows oak")
        told = all_answers(desk)
        for line in lines:
            refused(self, NoLine, desk.say, line)
        self.assertEqual(all_answers(desk), told)

    def test_first_words(self):
        self.assert_no_lines([
            "", " ", "   ", "x", "Put oak 7 a 30", "PUT", "puts oak", "all", "none", "ok", "N", "V", "out_ 1", "-", "0",
            "sorts rows none", " show", "  show", " put oak 7 a 30", " out 0", "show\n", "\nshow", "shown", "..", "S",
            "resieve town=oak", "close rows oak", "turn\n0 oak 7 a 30",
        ])

    def test_counts_of_words(self):
        self.assert_no_lines([
            "put", "out", "out 0 1", "out 0 ", "out  0", "turn", "turn 0", "turn  0", "row", "row 0 0", "row 0 ",
            "row  0", "box", "box all", "box all all all", "box all all ", "box  all all", "box all  all", "rows",
            "rows all", "rows all all all", "rows all  all", "open", "open rows", "open rows all all", "open rows  all",
            "open  rows all",
            "fold", "fold rows", "fold rows all all", "fold rows all ", "sort", "sort rows", "sort rows all 0",
            "sort rows all 0 up up", "sort rows none up", "sort rows none 0", "sort rows none ", "sort rows all 0 up ",
            "sort rows none none", "show ", "show all", "show  ", "parts", "parts 5", "parts 5 0 0", "parts 5  0",
            "parts 5 0 ", "veil", "veil 5", "veil 5 0 0", "veil 5 0 ", "veil  5 0", "sieve", "sieve a b",
        ])

    def test_no_numbers(self):
        lines = []
        for word in NO_NUMBERS:
            lines += [f"out {word}", f"row {word}", f"turn {word} oak 7 a 30", f"parts {word} 0", f"veil {word} 0"]
            lines += [f"turn {word} x", f"sort rows all {word} up", f"parts 5 {word}", f"veil 5 {word}"]
        self.assert_no_lines(lines + ["veil 0 0", "veil 0 1", "veil 00 0", "veil 0 9"])

    def test_no_figures(self):
        lines = []
        for place in ("2", "3", "10", GREAT, "-1", "00", "01", "F"):
            lines += [f"sort rows all {place} up", f"sort columns oak {place} down"]
            lines += [f"parts 5 {place}", f"veil 5 {place}"]
        self.assert_no_lines(lines)
        for many in range(1, 5):
            desk = desk_of((("town",), (), (COUNT,) * many), WOOD)
            for place in range(6):
                for line in (f"sort rows all {place} up", f"parts 5 {place}", f"veil 5 {place}"):
                    if place >= many:
                        refused(self, NoLine, desk.say, line)
                if place < many:
                    self.assertEqual(desk.say(f"sort rows all {place} down"), "ok")
                    self.assertEqual(desk.say(f"parts 5 {place}"), "1;3;1")

    def test_no_sides_and_no_ways(self):
        lines = ["sort rows all 0 Up", "sort rows all 0 none", "sort rows all 0 ", "sort rows all 0 x", "sort rows all"]
        lines += ["sort rows up", "sort rows down", "sort rows None", "sort columns -"]
        for side in ("row", "column", "Rows", "", "all", "oak", "S", "rows\n", "up"):
            lines += [f"open {side} all", f"fold {side} oak", f"sort {side} none", f"sort {side} all 0 up"]
        self.assert_no_lines(lines)

    def test_ahead_of_all_else(self):
        self.assert_no_lines([
            "sort rows oak/7/a/x 9 up", "sort rows X 0 sideways", "sort x X 0 up", "open x X", "fold  X", "box X",
            "box X X X", "turn x X", "turn 99", "out 99 99", "row 99 99", "rows X", "parts 5 9", "veil 0 9",
            "sieve X X",
        ])
        desk = Desk(TREES, ((), (), (COUNT,)))
        refused(self, NoLine, desk.say, "parts 5 1")
        refused(self, NoWhole, desk.say, "parts 5 0")
        refused(self, NoLine, desk.say, "sort rows x 1 up")
        refused(self, NoHead, desk.say, "sort rows x 0 up")

    def test_random_lines(self):
        chance = random.Random(800)
        words = "put out turn row sieve box rows open fold sort show parts veil".split()
        words += ["0", "1", "-", "", "all", "oak", "oak/7", "a", "columns", "up", "down", "none", "X", "town=oak", "99"]
        desk = desk_of(VIEW, WOOD)
        for turn in range(4000):
            line = " ".join(chance.choice(words) for word in range(chance.randrange(1, 6)))
            told = all_answers(desk) if turn % 10 == 0 else None
            try:
                self.assertIs(type(desk.say(line)), str)
            except CrossError as refusal:
                self.assertNotIn(type(refusal), (NoView, NoFields))
                if told is not None:
                    self.assertEqual(all_answers(desk), told)


class LongLines(unittest.TestCase):
    def test_eight_hundred_signs(self):
        fields = [(name, "number") for name in "abcdefgh"]
        desk = Desk(fields, (tuple("abc"), tuple("def"), (COUNT, ("sum", "a"))))
        row = " ".join(["-" + GREAT] * 8)
        self.assertEqual(desk.say("put " + row), "0")
        self.assertEqual(desk.say(f"turn 0 {row}"), "ok")
        self.assertEqual(desk.say("row 0"), row)
        path = "/".join(["-" + GREAT] * 3)
        self.assertEqual(desk.say(f"box {path} {path}"), f"1,-{GREAT}")
        for deed, error in [
            ("put ", NoRow), ("box ", NoLine), ("sieve ", NoSieve), ("open rows ", NoHead), ("x", NoLine),
        ]:
            refused(self, error, desk.say, deed + "z" * (800 - len(deed)))
        text = "(|" + "|".join(["a=" + "1" * 9] * 59) + ")"
        self.assertEqual((len(text) < 800, desk.say("sieve " + text), desk.say("rows all all")), (True, "ok", "none"))


class Whole(unittest.TestCase):
    """Several lines behind one another, with their answers."""

    def test_a_talk(self):
        desk = Desk([("town", "word"), ("year", "number"), ("many", "number")],
                    (("town",), ("year",), (("sum", "many"), COUNT)))
        for line, answer in [
            ("show", "|all\nall|0,0"), ("put oak 1990 3", "0"), ("put ash 1990 5", "1"), ("put oak 1991 -", "2"),
            ("show", "|all|1990|1991\nall|8,3|8,2|0,1\nash|5,1|5,1|0,0\noak|3,2|3,1|0,1"), ("turn 2 oak 1991 9", "ok"),
            ("sort rows all 0 down", "ok"), ("fold columns all", "ok"), ("show", "|all\nall|17,3\noak|12,2\nash|5,1"),
            ("parts 17 0", "5,0;3,9"), ("put ash 1991 6", "3"), ("veil 3 0", "0/0 0/1 1/0 1/1"),
            ("out 3", "ok"), ("rows ash 1991", "none"), ("rows oak all", "0 2"), ("sieve !town=oak", "ok"),
            ("open columns all", "ok"), ("show", "|all|1990\nall|5,1|5,1\nash|5,1|5,1"), ("box oak all", "0,0"),
            ("sieve (|town=oak|town=ash)", "ok"), ("sort rows none", "ok"), ("row 2", "oak 1991 9"),
            ("show", "|all|1990|1991\nall|17,3|8,2|9,1\nash|5,1|5,1|0,0\noak|12,2|3,1|9,1"), ("out 0", "ok"),
            ("out 1", "ok"), ("out 2", "ok"), ("show", "|all\nall|0,0"), ("put elm - 1", "4"),
            ("show", "|all\nall|0,0"), ("sieve (&)", "ok"), ("show", "|all|-\nall|1,1|1,1\nelm|1,1|1,1"),
        ]:
            self.assertEqual(desk.say(line), answer, line)


class Unchanged(unittest.TestCase):
    def test_what_is_handed_in(self):
        fields = list(TREES)
        desk = Desk(fields, VIEW)
        self.assertEqual(fields, TREES)
        fields.clear()
        self.assertEqual(desk.say("put " + WOOD[0]), "0")
        self.assertEqual(desk.say("show"), "|all|a\nall|1,30|1,30\noak|1,30|1,30")

    def test_desks_apart(self):
        one, other = Desk(TREES, VIEW), Desk(TREES, VIEW)
        one.say("put " + WOOD[0])
        one.say("fold rows all")
        self.assertEqual(other.say("put " + WOOD[0]), "0")
        self.assertEqual(other.say("show"), "|all|a\nall|1,30|1,30\noak|1,30|1,30")

    def test_asking_changes_nothing(self):
        desk = desk_of(VIEW, WOOD)
        desk.say("sort rows all 0 down")
        told = all_answers(desk)
        for line in ("show", "row 0", "box oak a", "rows yew all", "parts 9 0", "veil 9 0"):
            try:
                desk.say(line)
            except NoVeil:
                pass
            self.assertEqual(all_answers(desk), told)


class Interface(unittest.TestCase):
    def test_arguments(self):
        self.assertEqual(list(inspect.signature(Desk).parameters), ["fields", "view"])
        self.assertEqual(list(inspect.signature(Desk.say).parameters), ["self", "line"])

    def test_is_the_table_laid(self):
        desk = desk_of(VIEW, WOOD)
        rows = [
            ("oak", 7, "a", 30), ("ash", 3, "b", None), ("oak", None, "b", -5), (None, 7, "a", 0), ("oak", 7, "b", 30),
        ]
        table = Table(TREES, VIEW, list(enumerate(rows)))
        self.assertEqual(desk.say("show").split("\n"), lines_of(Look(table)))


if __name__ == "__main__":
    unittest.main()
