"""[8] sieves and what they let by; [9] how they are refused; [2] as far as it reaches them."""

import inspect
import random
import unittest

from crosshall import sieves
from crosshall.errors import NoField, NoKind
from crosshall.sieves import asked_sieve, lets_by
from helper import GROVE, TREES, leaves, random_leaf, random_sieve, refused

EVERY = ("all", ())
NEVER = ("some", ())


def deep(form, levels, leaf):
    """A sieve of so many levels, each but the last of that form."""
    for level in range(levels - 1):
        leaf = (form, leaf) if form == "not" else (form, (leaf,))
    return leaf


def plainly(sieve, row):
    """What [8] says, reckoned another way: by a Python expression."""
    return eval(expression(sieve, dict(zip([name for name, kind in TREES], row))))


def expression(sieve, values):
    if sieve[0] == "not":
        return f"(not {expression(sieve[1], values)})"
    if sieve[0] in ("all", "some"):
        joint, none = {"all": (" and ", "True"), "some": (" or ", "False")}[sieve[0]]
        return "(" + joint.join([none] * (not sieve[1]) + [expression(inner, values) for inner in sieve[1]]) + ")"
    value = values[sieve[1]]
    if sieve[0] == "lacks" or value is None:
        return str(sieve[0] == "lacks" and value is None)
    sign = {"is": "==", "under": "<", "over": ">"}[sieve[0]]
    return f"({value!r} {sign} {sieve[2]!r})"


class LetsBy(unittest.TestCase):
    def assert_lets_by(self, sieve, places):
        self.assertIs(asked_sieve(TREES, sieve), True)
        for place, row in enumerate(GROVE):
            self.assertIs(lets_by(TREES, sieve, row), place in places, (sieve, row))

    def test_is(self):
        self.assert_lets_by(("is", "town", "oak"), [0, 2, 7])
        self.assert_lets_by(("is", "town", "0"), [8])
        self.assert_lets_by(("is", "town", "oa"), [])
        self.assert_lets_by(("is", "town", "none"), [])
        self.assert_lets_by(("is", "kind", "a"), [0, 3, 5, 8])
        self.assert_lets_by(("is", "age", 7), [0, 3, 7])
        self.assert_lets_by(("is", "age", 0), [8])
        self.assert_lets_by(("is", "age", -2), [4])
        self.assert_lets_by(("is", "high", 10 ** 40), [5])
        self.assert_lets_by(("is", "high", 10 ** 40 + 1), [])

    def test_under(self):
        self.assert_lets_by(("under", "age", 7), [1, 4, 5, 8])
        self.assert_lets_by(("under", "age", 8), [0, 1, 3, 4, 5, 7, 8])
        self.assert_lets_by(("under", "age", 0), [4])
        self.assert_lets_by(("under", "age", -2), [])
        self.assert_lets_by(("under", "high", 0), [2, 8])
        self.assert_lets_by(("under", "high", -(10 ** 59)), [])
        self.assert_lets_by(("under", "high", 10 ** 60 - 1), [0, 2, 3, 4, 5, 7, 8])

    def test_over(self):
        self.assert_lets_by(("over", "age", 3), [0, 3, 7])
        self.assert_lets_by(("over", "age", 2), [0, 1, 3, 5, 7])
        self.assert_lets_by(("over", "age", 7), [])
        self.assert_lets_by(("over", "age", -(10 ** 60) + 1), [0, 1, 3, 4, 5, 7, 8])
        self.assert_lets_by(("over", "high", 10 ** 40 - 1), [5])
        self.assert_lets_by(("over", "high", 10 ** 40), [])

    def test_lacks(self):
        self.assert_lets_by(("lacks", "town"), [3, 6])
        self.assert_lets_by(("lacks", "age"), [2, 6])
        self.assert_lets_by(("lacks", "kind"), [4, 6])
        self.assert_lets_by(("lacks", "high"), [1, 6])

    def test_not(self):
        self.assert_lets_by(("not", ("is", "town", "oak")), [1, 3, 4, 5, 6, 8])
        self.assert_lets_by(("not", ("under", "age", 7)), [0, 2, 3, 6, 7])
        self.assert_lets_by(("not", ("over", "age", 3)), [1, 2, 4, 5, 6, 8])
        self.assert_lets_by(("not", ("lacks", "town")), [0, 1, 2, 4, 5, 7, 8])
        self.assert_lets_by(("not", ("not", ("is", "age", 7))), [0, 3, 7])

    def test_all(self):
        self.assert_lets_by(("all", (("is", "town", "oak"),)), [0, 2, 7])
        self.assert_lets_by(("all", (("is", "town", "oak"), ("is", "age", 7))), [0, 7])
        self.assert_lets_by(("all", (("is", "town", "oak"), ("is", "age", 7), ("is", "kind", "b"))), [7])
        self.assert_lets_by(("all", (("is", "town", "oak"), ("is", "town", "ash"))), [])

    def test_some(self):
        self.assert_lets_by(("some", (("is", "town", "oak"),)), [0, 2, 7])
        self.assert_lets_by(("some", (("is", "town", "oak"), ("is", "age", 7))), [0, 2, 3, 7])
        self.assert_lets_by(("some", (("lacks", "town"), ("lacks", "age"), ("is", "town", "elm"))), [2, 3, 4, 6])

    def test_all_and_some_of_none(self):
        every = list(range(len(GROVE)))
        self.assert_lets_by(EVERY, every)
        self.assert_lets_by(NEVER, [])
        self.assert_lets_by(("not", EVERY), [])
        self.assert_lets_by(("not", NEVER), every)
        self.assert_lets_by(("all", (EVERY, NEVER)), [])
        self.assert_lets_by(("some", (EVERY, NEVER)), every)

    def test_sieves_within_sieves(self):
        young = ("some", (("under", "age", 7), ("lacks", "age")))
        self.assert_lets_by(("all", (("is", "town", "oak"), ("not", young))), [0, 7])
        self.assert_lets_by(("all", (("is", "town", "oak"), young)), [2])
        self.assert_lets_by(("some", (("all", (young, ("is", "kind", "b"))), ("is", "town", "elm"))), [1, 2, 4])

    def test_one_field_of_two(self):
        fields = [("age", "number"), ("town", "word")]
        self.assertIs(lets_by(fields, ("is", "town", "oak"), (7, "oak")), True)
        self.assertIs(lets_by(fields, ("under", "age", 8), (7, "oak")), True)
        self.assertIs(lets_by(fields, ("lacks", "age"), (7, None)), False)

    def test_fields_named_like_forms(self):
        fields = [("not", "word"), ("all", "number"), ("is", "word")]
        row = ("all", 7, None)
        told = [
            (("is", "not", "all"), True), (("is", "all", 7), True), (("under", "all", 7), False),
            (("lacks", "is"), True), (("not", ("is", "not", "all")), False), (("all", (("lacks", "all"),)), False),
        ]
        for sieve, answer in told:
            self.assertIs(asked_sieve(fields, sieve), True)
            self.assertIs(lets_by(fields, sieve, row), answer)

    def test_words_of_figures_are_no_numbers(self):
        fields = [("code", "word"), ("age", "number")]
        self.assertIs(lets_by(fields, ("is", "code", "7"), ("7", 7)), True)
        self.assertIs(lets_by(fields, ("is", "code", "7"), ("07", 7)), False)

    def test_beside_a_plain_reckoning(self):
        chance = random.Random(8)
        answers = []
        for turn in range(400):
            sieve = random_sieve(chance, TREES, 1 + turn % 5)
            for row in GROVE:
                answers.append(lets_by(TREES, sieve, row))
                self.assertIs(answers[-1], plainly(sieve, row), (sieve, row))
        self.assertGreater(answers.count(True), 500)
        self.assertGreater(answers.count(False), 500)


class Bounds(unittest.TestCase):
    """No refusal is told for what lies somewhat beyond the bounds of [8]."""

    def test_twelve_levels_and_more(self):
        leaf = ("is", "town", "oak")
        for levels in (1, 2, 11, 12, 13, 20):
            for form in ("not", "all", "some"):
                sieve = deep(form, levels, leaf)
                self.assertIs(asked_sieve(TREES, sieve), True)
                turned = form == "not" and levels % 2 == 0
                self.assertIs(lets_by(TREES, sieve, GROVE[0]), not turned)
                self.assertIs(lets_by(TREES, sieve, GROVE[1]), turned)

    def test_wrong_beneath_twelve_levels_and_more(self):
        for levels in (12, 13, 20):
            for form in ("not", "all", "some"):
                sieve = deep(form, levels, ("lacks", "x"))
                self.assertEqual(refused(self, NoField, asked_sieve, TREES, sieve).name, "x")

    def test_sixty_sieves_and_more(self):
        for many in (59, 60, 80):
            ages = tuple(("is", "age", age) for age in range(100, 100 + many - 1))
            self.assertIs(asked_sieve(TREES, ("some", ages)), True)
            self.assertIs(lets_by(TREES, ("some", ages), ("oak", 100 + many - 2, None, None)), True)
            self.assertIs(lets_by(TREES, ("some", ages), ("oak", 100 + many - 1, None, None)), False)
            self.assertEqual(refused(self, NoField, asked_sieve, TREES, ("all", ages + (("lacks", "x"),))).name, "x")

    def test_numbers_and_words_beyond_their_bounds(self):
        for sieve in (("is", "age", 10 ** 60), ("under", "age", 10 ** 61), ("over", "age", -(10 ** 60))):
            self.assertIs(asked_sieve(TREES, sieve), True)
        self.assertIs(asked_sieve(TREES, ("is", "town", "a" * 13)), True)
        self.assertIs(lets_by(TREES, ("under", "age", 10 ** 61), GROVE[0]), True)


class Refused(unittest.TestCase):
    def test_right_ones(self):
        for sieve in [random_sieve(random.Random(seed), TREES, 5) for seed in range(100)] + [EVERY, NEVER]:
            self.assertIs(asked_sieve(TREES, sieve), True)

    def test_names_of_no_field(self):
        for name in ("", "Town", "tow", "towns", "town ", "town\n", "word", "-", "is", "x" * 400, "&", "(|"):
            for sieve in (("is", name, "oak"), ("is", name, 7), ("under", name, 7), ("over", name, 7), ("lacks", name)):
                for whole in (sieve, ("not", sieve), ("all", (sieve,)), ("some", (EVERY, sieve))):
                    self.assertEqual(refused(self, NoField, asked_sieve, TREES, whole).name, name)

    def test_under_and_over_of_words(self):
        for form in ("under", "over"):
            for number in (7, 0, -7, 10 ** 59):
                for name in ("town", "kind"):
                    sieve = (form, name, number)
                    for whole in (sieve, ("not", sieve), ("all", (sieve,))):
                        self.assertEqual(refused(self, NoKind, asked_sieve, TREES, whole).name, name)

    def test_value_of_the_other_kind(self):
        for number in (7, 0, -7, 10 ** 59):
            self.assertEqual(refused(self, NoKind, asked_sieve, TREES, ("is", "town", number)).name, "town")
        for word in ("oak", "7", "0", "a" * 12):
            self.assertEqual(refused(self, NoKind, asked_sieve, TREES, ("is", "age", word)).name, "age")

    def test_lacks_of_each_kind(self):
        self.assertIs(asked_sieve(TREES, ("lacks", "town")), True)
        self.assertIs(asked_sieve(TREES, ("lacks", "age")), True)

    def test_fields_of_other_kinds(self):
        fields = [("town", "number"), ("age", "word")]
        self.assertIs(asked_sieve(fields, ("is", "town", 7)), True)
        self.assertIs(asked_sieve(fields, ("is", "age", "7")), True)
        self.assertEqual(refused(self, NoKind, asked_sieve, fields, ("under", "age", 7)).name, "age")
        self.assertEqual(refused(self, NoKind, asked_sieve, fields, ("is", "town", "oak")).name, "town")

    def test_first_one_goes_first(self):
        no_field = ("lacks", "x")
        no_kind = ("under", "town", 7)
        other_kind = ("is", "age", "oak")
        right = ("is", "age", 7)
        told = [
            ((no_field, no_kind), NoField, "x"), ((no_kind, no_field), NoKind, "town"),
            ((other_kind, no_kind), NoKind, "age"), ((right, no_kind, other_kind, no_field), NoKind, "town"),
            ((("not", no_field), no_kind), NoField, "x"), ((EVERY, no_kind, no_field), NoKind, "town"),
            ((("all", (right, ("some", (no_kind,)))), no_field), NoKind, "town"),
            ((("some", ()), ("not", ("not", no_field)), other_kind), NoField, "x"),
            ((no_field, ("lacks", "y")), NoField, "x"), ((("lacks", "y"), no_field), NoField, "y"),
        ]
        for within, error, name in told:
            for form in ("all", "some"):
                self.assertEqual(refused(self, error, asked_sieve, TREES, (form, within)).name, name)

    def test_both_in_one(self):
        # What has no field has no kind either.
        self.assertEqual(refused(self, NoField, asked_sieve, TREES, ("under", "x", 7)).name, "x")

    def test_looked_through_though_the_answer_is_plain(self):
        self.assertEqual(refused(self, NoField, asked_sieve, TREES, ("all", (NEVER, ("lacks", "x")))).name, "x")
        self.assertEqual(refused(self, NoField, asked_sieve, TREES, ("some", (EVERY, ("lacks", "x")))).name, "x")

    def test_beside_a_plain_reckoning(self):
        chance = random.Random(9)
        kinds = {"town": str, "age": int, "kind": str, "high": int}
        wrong = TREES + [("x", "word"), ("y", "number"), ("town", "number"), ("age", "word")]
        seen = {NoField: 0, NoKind: 0, None: 0}
        for turn in range(600):
            sieve = random_sieve(chance, wrong, 1 + turn % 5)
            due = (None, None)
            for leaf in reversed(leaves(sieve)):
                if leaf[1] not in kinds:
                    due = (NoField, leaf[1])
                elif leaf[0] != "lacks" and type(leaf[2]) is not kinds[leaf[1]]:
                    due = (NoKind, leaf[1])
            seen[due[0]] += 1
            if due[0] is None:
                self.assertIs(asked_sieve(TREES, sieve), True)
            else:
                self.assertEqual(refused(self, due[0], asked_sieve, TREES, sieve).name, due[1])
        self.assertGreater(min(seen.values()), 50)


class Unchanged(unittest.TestCase):
    def test_fields_and_sieves(self):
        fields = list(TREES)
        chance = random.Random(2)
        for turn in range(50):
            sieve = random_leaf(chance, TREES)
            kept = tuple(list(sieve))
            asked_sieve(fields, sieve)
            lets_by(fields, sieve, GROVE[0])
            refused(self, NoField, asked_sieve, fields, ("all", (sieve, ("lacks", "x"))))
            self.assertEqual((fields, sieve), (TREES, kept))

    def test_fields_that_are_changed_afterwards(self):
        fields = [("town", "word")]
        asked_sieve(fields, ("lacks", "town"))
        fields[0] = ("age", "number")
        refused(self, NoField, asked_sieve, fields, ("lacks", "town"))
        self.assertIs(lets_by(fields, ("over", "age", 6), (7,)), True)


class Interface(unittest.TestCase):
    def test_arguments(self):
        told = {"asked_sieve": ["fields", "sieve"], "lets_by": ["fields", "sieve", "row"]}
        for name, arguments in told.items():
            self.assertEqual(list(inspect.signature(getattr(sieves, name)).parameters), arguments)


if __name__ == "__main__":
    unittest.main()
