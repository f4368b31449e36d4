"""[12] views; [13] paths and heads; [7] in the order of heads; [3] as far as heads and figures tell of it."""

import functools
import inspect
import random
import unittest

from crosshall import heads
from crosshall.errors import NoField, NoHead, NoKind, NoView
from crosshall.figures import figure_of
from crosshall.heads import asked_path, asked_view, heads_of, lies_under
from helper import COUNT, GROVE, TREES, not_texts, one_ahead, refused

EIGHT = [(name, "number" if name in "bdfh" else "word") for name in "abcdefgh"]
SIDES = [(), ("town",), ("age",), ("town", "age"), ("age", "town"), ("town", "kind", "age"), ("high", "age", "kind")]


class Views(unittest.TestCase):
    def test_right_ones(self):
        figures = (COUNT, ("sum", "age"), ("greatest", "town"), ("least", "kind"))
        for view in [
            ((), (), (COUNT,)), (("town",), (), (COUNT,)), ((), ("town",), (COUNT,)), (("town",), ("age",), (COUNT,)),
            (("town", "kind"), ("age", "high"), figures), (("age",), (), (("sum", "age"),)), (("town",), (), figures),
            (("town",), (), (("unlike", "town"), ("greatest", "age"), ("least", "age"), ("unlike", "age"))),
        ]:
            self.assertIs(asked_view(TREES, view), True)

    def test_none_to_three_names_a_side(self):
        for one in range(4):
            for other in range(4):
                self.assertIs(asked_view(EIGHT, (tuple("abc"[:one]), tuple("def"[:other]), (COUNT,))), True)

    def test_four_names_a_side(self):
        for many in (4, 5, 8):
            refused(self, NoView, asked_view, EIGHT, (tuple("abcdefgh"[:many]), (), (COUNT,)))
            refused(self, NoView, asked_view, EIGHT, ((), tuple("abcdefgh"[:many]), (COUNT,)))
        refused(self, NoView, asked_view, EIGHT, (("a", "b", "c", "d"), ("e", "f", "g", "h"), (COUNT,)))

    def test_name_twice(self):
        for rows, columns in [
            ("aa", ""), ("", "aa"), ("aba", ""), ("", "baa"), ("a", "a"), ("abc", "dea"), ("abc", "cde"),
            ("abc", "abc"), ("xx", ""), ("x", "x"),
        ]:
            refused(self, NoView, asked_view, EIGHT, (tuple(rows), tuple(columns), (COUNT,)))

    def test_one_to_four_figures(self):
        for many in range(1, 5):
            self.assertIs(asked_view(TREES, ((), (), (COUNT,) * many)), True)
            self.assertIs(asked_view(TREES, (("town",), ("age",), (("sum", "high"),) * many)), True)

    def test_none_and_five_figures(self):
        for many in (0, 5, 6, 300):
            refused(self, NoView, asked_view, TREES, ((), (), (COUNT,) * many))
            refused(self, NoView, asked_view, TREES, (("town",), ("age",), (("sum", "high"),) * many))

    def test_figure_of_a_field_that_is_on_a_side(self):
        self.assertIs(asked_view(TREES, (("age",), ("high",), (("sum", "age"), ("least", "high")))), True)

    def test_other_things(self):
        right = (("town",), ("age",), (COUNT,))
        wrong = [(), right[:2], right + ((),), list(right)]
        wrong += [(["town"], ("age",), (COUNT,)), (("town",), ["age"], (COUNT,))]
        wrong += [(("town",), ("age",), [COUNT]), ("town", ("age",), (COUNT,)), (("town",), ("age",), COUNT)]
        no_sides = [thing for thing in not_texts() if type(thing) is not tuple]
        wrong += not_texts() + [(thing, ("age",), (COUNT,)) for thing in no_sides]
        wrong += [(("town",), thing, (COUNT,)) for thing in no_sides]
        wrong += [(("town",), ("age",), thing) for thing in no_sides]
        wrong += [((thing,), ("age",), (COUNT,)) for thing in not_texts()]
        wrong += [(("town",), ("age",), (thing,)) for thing in not_texts()]
        wrong += [(("town",), ("age",), (("sum", thing),)) for thing in not_texts()]
        figures = [(), ("sum",), ("count", "age"), ("sums", "age"), ("sum", "age", "high"), ["sum", "age"], "count"]
        for figure in figures:
            wrong += [(("town",), ("age",), (figure,)), ((), (), (COUNT, figure)), ((), (), (figure, COUNT))]
        for view in wrong:
            refused(self, NoView, asked_view, TREES, view)


class ViewsOfFields(unittest.TestCase):
    def test_names_of_no_field(self):
        for name in ("", "Town", "tow", "towns", "town ", "town\n", "word", "-", "count", "x" * 400):
            for view in [
                ((name,), (), (COUNT,)), (("town", name), (), (COUNT,)), ((), (name,), (COUNT,)),
                (("town",), ("age", name), (COUNT,)), ((), (), (("sum", name),)), ((), (), (COUNT, ("unlike", name))),
                ((), (), (("greatest", name),)), ((), (), (("least", name),)),
            ]:
                self.assertEqual(refused(self, NoField, asked_view, TREES, view).name, name)

    def test_sum_of_words(self):
        for name in ("town", "kind"):
            self.assertEqual(refused(self, NoKind, asked_view, TREES, ((), (), (("sum", name),))).name, name)
            view = (("town",), ("age",), (COUNT, ("sum", "age"), ("least", name), ("sum", name)))
            self.assertEqual(refused(self, NoKind, asked_view, TREES, view).name, name)

    def test_other_figures_of_words(self):
        self.assertIs(asked_view(TREES, ((), (), (("greatest", "town"), ("least", "town"), ("unlike", "town")))), True)

    def test_fields_named_like_figures(self):
        fields = [("count", "word"), ("sum", "number")]
        self.assertIs(asked_view(fields, (("count",), ("sum",), (COUNT, ("sum", "sum"), ("least", "count")))), True)
        self.assertEqual(refused(self, NoKind, asked_view, fields, ((), (), (("sum", "count"),))).name, "count")

    def test_which_goes_first(self):
        words = ("sum", "town")
        told = [
            ((("x",), ("y",), (("sum", "z"),)), NoField, "x"), (((), ("y",), (("sum", "z"),)), NoField, "y"),
            ((("town", "x"), ("y",), (words,)), NoField, "x"), ((("town",), ("age", "y"), (words,)), NoField, "y"),
            (((), (), (words, ("sum", "z"))), NoKind, "town"), (((), (), (("sum", "z"), words)), NoField, "z"),
            (((), (), (COUNT, ("least", "z"), words)), NoField, "z"),
            (((), (), (words, ("sum", "kind"))), NoKind, "town"),
            (((), (), (("sum", "kind"), words)), NoKind, "kind"), ((("y", "x"), (), (COUNT,)), NoField, "y"),
            (((), (), (("sum", "age"), words, ("unlike", "z"))), NoKind, "town"),
        ]
        for view, error, name in told:
            self.assertEqual(refused(self, error, asked_view, TREES, view).name, name)

    def test_no_view_goes_ahead(self):
        for view in [
            (("x", "town", "town"), (), (COUNT,)), (("x",), ("x",), (COUNT,)), (("x", "y", "z", "u"), (), (COUNT,)),
            (("x",), ("a", "b", "c", "d"), (COUNT,)), (("x",), (), ()), (("x",), (), (COUNT,) * 5), ((), ("x",), ()),
            ((), (), (("sum", "town"),) * 5), ((), (), (("sum", "x"),) * 5), (("town",), ("town",), (("sum", "town"),)),
        ]:
            refused(self, NoView, asked_view, TREES, view)


class Paths(unittest.TestCase):
    def test_right_ones(self):
        for names, path in [
            ((), ()), (("town",), ()), (("town",), ("oak",)), (("town",), ("no" * 6,)), (("town",), (None,)),
            (("age",), (7,)), (("age",), (-(10 ** 60) + 1,)), (("age",), (10 ** 60 - 1,)), (("age",), (0,)),
            (("age",), (None,)), (("town", "age"), ()), (("town", "age"), ("oak",)), (("town", "age"), ("oak", 7)),
            (("town", "age"), (None, None)), (("age", "town"), (7, "7")), (("town", "kind", "age"), ("7", None, 7)),
            (("town", "kind", "age"), ("7", None)), (("high", "age", "kind"), (None, 0, "0")),
        ]:
            self.assertIs(asked_path(TREES, names, path), True)

    def test_more_values_than_names(self):
        for names, path in [
            ((), ("oak",)), ((), (None,)), ((), (7,)), (("town",), ("oak", "oak")), (("town",), ("oak", None)),
            (("town", "age"), ("oak", 7, None)), (("town", "age", "kind"), ("oak", 7, "a", 30)),
            (("town", "age", "kind"), ("oak", 7, "a", None)), (("town",), (None,) * 300),
        ]:
            refused(self, NoHead, asked_path, TREES, names, path)

    def test_values_of_the_other_kind(self):
        for names, path in [
            (("town",), (7,)), (("age",), ("7",)), (("age",), ("oak",)), (("town", "age"), (7, "oak")),
            (("town", "age"), ("oak", "7")), (("age", "town"), ("oak",)), (("town", "kind", "age"), ("oak", "a", "b")),
            (("town", "kind", "age"), ("oak", 7)), (("town", "kind", "age"), (None, None, "-")),
        ]:
            refused(self, NoHead, asked_path, TREES, names, path)

    def test_texts_that_are_no_words(self):
        for text in ("", "-", "Oak", "o k", "oak\n", "a" * 13, "-7", "a" * 400, "oak/7"):
            for names in (("town",), ("age",), ("town", "age")):
                refused(self, NoHead, asked_path, TREES, names, (text,))
            refused(self, NoHead, asked_path, TREES, ("age", "town"), (7, text))

    def test_numbers_of_any_size(self):
        for number in (10 ** 60, -(10 ** 60), 10 ** 61, 10 ** 5000, -(10 ** 5000)):
            for names in (("town",), ("age",), ("age", "town")):
                refused(self, NoHead, asked_path, TREES, names, (number,))


class LiesUnder(unittest.TestCase):
    def test_beginnings(self):
        names = ("town", "age", "kind")
        row = ("oak", 7, "a", 30)
        for many in range(4):
            self.assertIs(lies_under(TREES, names, ("oak", 7, "a")[:many], row), True)
        paths = [("ash",), (None,), ("oak", 8), ("ash", 7), ("oak", None), ("oak", 7, "b"), ("oak", 8, "a"), ("oa",)]
        for path in paths:
            self.assertIs(lies_under(TREES, names, path, row), False, path)

    def test_names_in_another_order(self):
        self.assertIs(lies_under(TREES, ("high", "town"), (30, "oak"), GROVE[0]), True)
        self.assertIs(lies_under(TREES, ("high", "town"), (7, "oak"), GROVE[0]), False)
        self.assertIs(lies_under(TREES, ("kind", "age"), ("a", 7), GROVE[0]), True)

    def test_no_names(self):
        for row in GROVE:
            self.assertIs(lies_under(TREES, (), (), row), True)

    def test_what_lacks(self):
        lacks = (None, None, None, None)
        self.assertIs(lies_under(TREES, ("town", "age"), (None, None), lacks), True)
        self.assertIs(lies_under(TREES, ("town", "age"), (None, 0), lacks), False)
        self.assertIs(lies_under(TREES, ("age",), (None,), ("oak", 0, None, None)), False)
        self.assertIs(lies_under(TREES, ("age",), (0,), ("oak", 0, None, None)), True)

    def test_what_is_no_path(self):
        row = ("7", 7, None, None)
        self.assertIs(lies_under(TREES, ("town",), (7,), row), False)
        self.assertIs(lies_under(TREES, ("age",), ("7",), row), False)
        self.assertIs(lies_under(TREES, ("town",), ("7", 7), row), False)
        self.assertIs(lies_under(TREES, ("age",), (10 ** 5000,), row), False)


class Heads(unittest.TestCase):
    def assert_heads(self, names, rows, told):
        self.assertEqual(heads_of(TREES, names, rows), told)

    def test_no_names(self):
        self.assert_heads((), GROVE, [()])
        self.assert_heads((), [], [()])

    def test_no_rows(self):
        for names in SIDES:
            self.assert_heads(names, [], [()])

    def test_one_name(self):
        self.assert_heads(("town",), GROVE, [(), ("0",), ("ash",), ("elm",), ("oak",), (None,)])
        self.assert_heads(("age",), GROVE, [(), (-2,), (0,), (3,), (7,), (None,)])
        self.assert_heads(("high",), GROVE, [(), (-(10 ** 59),), (-5,), (0,), (30,), (10 ** 40,), (None,)])
        self.assert_heads(("kind",), GROVE, [(), ("a",), ("b",), (None,)])

    def test_two_names(self):
        self.assert_heads(("town", "age"), GROVE, [
            (), ("0",), ("0", 0), ("ash",), ("ash", 3), ("elm",), ("elm", -2), ("oak",), ("oak", 7), ("oak", None),
            (None,), (None, 7), (None, None),
        ])
        self.assert_heads(("age", "kind"), GROVE, [
            (), (-2,), (-2, None), (0,), (0, "a"), (3,), (3, "a"), (3, "b"), (7,), (7, "a"), (7, "b"),
            (None,), (None, "b"), (None, None),
        ])

    def test_three_names(self):
        self.assert_heads(("kind", "town", "age"), GROVE[:5], [
            (), ("a",), ("a", "oak"), ("a", "oak", 7), ("a", None), ("a", None, 7), ("b",), ("b", "ash"),
            ("b", "ash", 3), ("b", "oak"), ("b", "oak", None), (None,), (None, "elm"), (None, "elm", -2),
        ])

    def test_words_as_texts_and_numbers_by_size(self):
        numbers = (9, 10, 100, -9, -10)
        rows = [(str(abs(number)), number, None, None) for number in numbers]
        self.assert_heads(("town",), rows, [(), ("10",), ("100",), ("9",)])
        self.assert_heads(("age",), rows, [(), (-10,), (-9,), (9,), (10,), (100,)])
        words = [(word, None, None, None) for word in ("b", "aa", "a", "a0", "z" * 12, None, "0")]
        self.assert_heads(("town",), words, [(), ("0",), ("a",), ("a0",), ("aa",), ("b",), ("z" * 12,), (None,)])

    def test_rows_that_are_alike(self):
        self.assert_heads(("town", "age"), [GROVE[0]] * 300, [(), ("oak",), ("oak", 7)])

    def test_order_of_rows_is_nothing(self):
        chance = random.Random(13)
        for names in SIDES:
            told = heads_of(TREES, names, GROVE)
            for time in range(10):
                rows = list(GROVE)
                chance.shuffle(rows)
                self.assertEqual(heads_of(TREES, names, rows), told)

    def test_beside_a_plain_reckoning(self):
        chance = random.Random(14)
        values = ([None, "a", "b"], [None, 0, 10, 9, -1], [None, "10", "9"], [None, 1, 10 ** 59])
        for turn in range(150):
            rows = [tuple(chance.choice(some) for some in values) for row in range(chance.randrange(12))]
            for names in SIDES:
                paths = [()]
                for row in rows:
                    by_name = dict(zip([name for name, kind in TREES], row))
                    whole = tuple(by_name[name] for name in names)
                    paths += [whole[:many] for many in range(len(names) + 1) if whole[:many] not in paths]
                told = heads_of(TREES, names, rows)
                self.assertEqual(told, sorted(paths, key=functools.cmp_to_key(one_ahead)))
                self.assert_right(names, rows, told)

    def assert_right(self, names, rows, told):
        for path in told:
            self.assertIs(type(path), tuple)
            self.assertIs(asked_path(TREES, names, path), True)
            self.assertTrue(path == () or any(lies_under(TREES, names, path, row) for row in rows))


class KidsComeToTheirHead(unittest.TestCase):
    """[3]: at each head that has kids the counts and sums of these come to its own, in each column."""

    def figures(self, rows, names, path, other_names, other):
        under = [row for row in rows if lies_under(TREES, names, path, row)]
        under = [row for row in under if lies_under(TREES, other_names, other, row)]
        return figure_of(TREES, COUNT, under), figure_of(TREES, ("sum", "high"), under)

    def assert_come_to(self, names, other_names):
        paths = heads_of(TREES, names, GROVE)
        for other in heads_of(TREES, other_names, GROVE):
            for path in paths:
                kids = [kid for kid in paths if len(kid) == len(path) + 1 and kid[:-1] == path]
                told = [self.figures(GROVE, names, kid, other_names, other) for kid in kids]
                if kids:
                    own = self.figures(GROVE, names, path, other_names, other)
                    self.assertEqual(own, (sum(count for count, total in told), sum(total for count, total in told)))

    def test_both_sides(self):
        for names, other_names in ((("town", "age"), ("kind",)), (("kind", "town", "age"), ("high",)), (("age",), ())):
            self.assert_come_to(names, other_names)
            self.assert_come_to(other_names, names)


class Unchanged(unittest.TestCase):
    def test_what_is_handed_in(self):
        fields = list(TREES)
        rows = list(GROVE)
        view = (("town",), ("age",), (COUNT, ("sum", "age")))
        asked_view(fields, view)
        refused(self, NoKind, asked_view, fields, ((), (), (("sum", "town"),)))
        asked_path(fields, ("town",), ("oak",))
        refused(self, NoHead, asked_path, fields, ("town",), (7,))
        lies_under(fields, ("town",), ("oak",), rows[0])
        heads_of(fields, ("town", "age"), rows)
        self.assertEqual((fields, rows), (TREES, GROVE))
        self.assertEqual(view, (("town",), ("age",), (COUNT, ("sum", "age"))))

    def test_heads_that_were_told(self):
        rows = list(GROVE[:2])
        told = heads_of(TREES, ("town",), rows)
        rows.append(("elm", 1, None, None))
        self.assertEqual(told, [(), ("ash",), ("oak",)])
        other = heads_of(TREES, ("town",), rows)
        told.clear()
        self.assertEqual(other, [(), ("ash",), ("elm",), ("oak",)])
        other.clear()
        self.assertEqual(heads_of(TREES, ("town",), []), [()])


class Interface(unittest.TestCase):
    def test_arguments(self):
        told = {
            "asked_view": ["fields", "view"], "asked_path": ["fields", "names", "path"],
            "lies_under": ["fields", "names", "path", "row"], "heads_of": ["fields", "names", "rows"],
        }
        for name, arguments in told.items():
            self.assertEqual(list(inspect.signature(getattr(heads, name)).parameters), arguments)


if __name__ == "__main__":
    unittest.main()
