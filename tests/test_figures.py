"""[11] figures; [2] as far as it reaches them."""

import inspect
import random
import unittest

from crosshall import figures
from crosshall.figures import figure_of
from helper import GROVE, TREES

FORMS = ("sum", "greatest", "least", "unlike")


class OfRows(unittest.TestCase):
    def assert_figure(self, figure, rows, answer):
        told = figure_of(TREES, figure, rows)
        self.assertEqual(told, answer)
        self.assertIs(type(told), type(answer))

    def test_count(self):
        for many in range(len(GROVE) + 1):
            self.assert_figure(("count",), GROVE[:many], many)
        self.assert_figure(("count",), [GROVE[0]] * 300, 300)
        self.assert_figure(("count",), [(None, None, None, None)] * 3, 3)

    def test_sum(self):
        self.assert_figure(("sum", "age"), GROVE, 7 + 3 + 7 - 2 + 3 + 7 + 0)
        self.assert_figure(("sum", "high"), GROVE, 30 - 5 + 0 + 30 + 10 ** 40 + 30 - 10 ** 59)
        self.assert_figure(("sum", "age"), GROVE[:1], 7)
        self.assert_figure(("sum", "age"), [GROVE[0], GROVE[4]], 5)
        self.assert_figure(("sum", "age"), [("oak", 10 ** 60 - 1, None, None)] * 300, 300 * (10 ** 60 - 1))

    def test_greatest_and_least_of_numbers(self):
        self.assert_figure(("greatest", "age"), GROVE, 7)
        self.assert_figure(("least", "age"), GROVE, -2)
        self.assert_figure(("greatest", "high"), GROVE, 10 ** 40)
        self.assert_figure(("least", "high"), GROVE, -(10 ** 59))
        numbers = [("oak", number, None, None) for number in (9, 10, 100, -9, -10)]
        self.assert_figure(("greatest", "age"), numbers, 100)
        self.assert_figure(("least", "age"), numbers, -10)
        self.assert_figure(("greatest", "age"), numbers[3:], -9)

    def test_greatest_and_least_of_words(self):
        self.assert_figure(("greatest", "town"), GROVE, "oak")
        self.assert_figure(("least", "town"), GROVE, "0")
        words = [(word, 1, None, None) for word in ("9", "10", "100", "a", "aa", "b")]
        self.assert_figure(("greatest", "town"), words, "b")
        self.assert_figure(("least", "town"), words, "10")
        self.assert_figure(("greatest", "town"), words[:3], "9")
        self.assert_figure(("greatest", "town"), words[3:5], "aa")
        self.assert_figure(("least", "town"), words[3:5], "a")

    def test_unlike(self):
        self.assert_figure(("unlike", "town"), GROVE, 4)
        self.assert_figure(("unlike", "age"), GROVE, 4)
        self.assert_figure(("unlike", "kind"), GROVE, 2)
        self.assert_figure(("unlike", "high"), GROVE, 5)
        self.assert_figure(("unlike", "town"), [GROVE[0]] * 5, 1)
        self.assert_figure(("unlike", "town"), [("7", 7, None, None), ("07", 7, None, None)], 2)

    def test_zero_does_not_lack(self):
        rows = [("0", 0, "0", 0), ("1", 1, "1", 1)]
        self.assert_figure(("least", "age"), rows, 0)
        self.assert_figure(("least", "town"), rows, "0")
        self.assert_figure(("unlike", "age"), rows, 2)
        self.assert_figure(("greatest", "age"), rows[:1], 0)

    def test_what_lacks_beside_numbers_below_0(self):
        rows = [("oak", -3, None, None), ("oak", None, None, None), ("oak", -5, None, None)]
        self.assert_figure(("greatest", "age"), rows, -3)
        self.assert_figure(("least", "age"), rows, -5)
        self.assert_figure(("sum", "age"), rows, -8)
        self.assert_figure(("unlike", "age"), rows, 2)

    def test_of_no_rows(self):
        self.assert_figure(("count",), [], 0)
        self.assert_figure(("sum", "age"), [], 0)
        for name, kind in TREES:
            self.assert_figure(("greatest", name), [], None)
            self.assert_figure(("least", name), [], None)
            self.assert_figure(("unlike", name), [], 0)

    def test_of_rows_where_all_lacks(self):
        for many in (1, 3):
            rows = [(None, None, None, None)] * many
            self.assert_figure(("count",), rows, many)
            self.assert_figure(("sum", "age"), rows, 0)
            for name, kind in TREES:
                self.assert_figure(("greatest", name), rows, None)
                self.assert_figure(("least", name), rows, None)
                self.assert_figure(("unlike", name), rows, 0)

    def test_fields_elsewhere(self):
        fields = [("high", "number"), ("age", "number"), ("town", "word")]
        rows = [(1, 20, "oak"), (2, 10, "ash")]
        told = [figure_of(fields, (form, name), rows) for form in FORMS for name in ("high", "age")]
        self.assertEqual(told, [3, 30, 2, 20, 1, 10, 2, 2])
        self.assertEqual(figure_of(fields, ("least", "town"), rows), "ash")

    def test_fields_named_like_forms(self):
        fields = [("count", "number"), ("sum", "word")]
        rows = [(5, "a"), (6, "b"), (None, "b")]
        told = [figure_of(fields, (form, "count"), rows) for form in FORMS]
        self.assertEqual(told, [11, 6, 5, 2])
        self.assertEqual(figure_of(fields, ("greatest", "sum"), rows), "b")


class PlainReckoning(unittest.TestCase):
    def test_beside_it(self):
        chance = random.Random(11)
        for turn in range(200):
            rows = [chance.choice(GROVE) for row in range(chance.randrange(8))]
            for place, (name, kind) in enumerate(TREES):
                values = [row[place] for row in rows if row[place] is not None]
                rising = sorted(values)
                unlike = [value for at, value in enumerate(values) if value not in values[:at]]
                self.assertEqual(figure_of(TREES, ("greatest", name), rows), rising[-1] if rising else None)
                self.assertEqual(figure_of(TREES, ("least", name), rows), rising[0] if rising else None)
                self.assertEqual(figure_of(TREES, ("unlike", name), rows), len(unlike))
                if kind == "number":
                    total = 0
                    for row in rows:
                        total += row[place] or 0
                    self.assertEqual(figure_of(TREES, ("sum", name), rows), total)


class Unchanged(unittest.TestCase):
    def test_fields_and_rows(self):
        fields = list(TREES)
        rows = list(GROVE)
        for form in FORMS:
            figure_of(fields, (form, "age"), rows)
        figure_of(fields, ("count",), rows)
        self.assertEqual((fields, rows), (TREES, GROVE))

    def test_order_of_rows_is_nothing(self):
        for figure in [("count",)] + [(form, "age") for form in FORMS]:
            self.assertEqual(figure_of(TREES, figure, GROVE), figure_of(TREES, figure, GROVE[::-1]))


class Interface(unittest.TestCase):
    def test_arguments(self):
        self.assertEqual(list(inspect.signature(figures.figure_of).parameters), ["fields", "figure", "rows"])


if __name__ == "__main__":
    unittest.main()
