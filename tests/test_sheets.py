"""[5] fields and rows; [6] sheets; [2] as far as it reaches them."""

import inspect
import random
import unittest

from crosshall import sheets
from crosshall.errors import NoField, NoFields, NoRow, NoSuch
from crosshall.sheets import Sheet, asked_fields, field_at
from helper import not_lists, not_texts, refused

TREES = [("town", "word"), ("age", "number"), ("kind", "word")]


def trees():
    return Sheet(list(TREES))


def many_fields(many):
    return [("f" + "abcdefghi"[place], ("word", "number")[place % 2]) for place in range(many)]


def wrong_fields():
    """Fields that are refused, each with one thing wrong."""
    right = ("town", "word")
    names = ["", "Town", "town1", "to wn", "town\n", "t" * 13, "7", "-"]
    kinds = ["", "Word", "words", "word ", "word\n", "numbers", "w", "text"]
    wrong = [("town",), ("town", "word", "word"), (), ["town", "word"], "ab", "town", {"town": "word"}]
    wrong += [(name, "word") for name in names + not_texts()]
    wrong += [("age", kind) for kind in kinds + not_texts()]
    wrong += [("word", "town"), ("number", 7)]
    lists = [[field] for field in wrong] + [[field, right] for field in wrong] + [[right, field] for field in wrong]
    lists += [[right, thing] for thing in not_texts()]
    lists += [[right, right], [right, ("town", "number")], [right, ("age", "number"), right]]
    return lists + [[], many_fields(9), many_fields(7) + [("fa", "word")]]


class Fields(unittest.TestCase):
    def test_one_to_eight(self):
        for many in range(1, 9):
            self.assertIs(asked_fields(many_fields(many)), True)
            self.assertEqual(Sheet(many_fields(many)).fields(), many_fields(many))

    def test_none_and_nine(self):
        for fields in ([], many_fields(9), many_fields(9) * 5):
            refused(self, NoFields, asked_fields, fields)
            refused(self, NoFields, Sheet, fields)

    def test_names_and_kinds(self):
        for fields in (TREES, [("word", "number")], [("number", "word"), ("word", "word")], [("a" * 12, "number")]):
            self.assertIs(asked_fields(fields), True)

    def test_no_tuple_of_fields(self):
        refused(self, NoFields, asked_fields, tuple(TREES))
        refused(self, NoFields, Sheet, tuple(TREES))

    def test_no_dict_of_fields(self):
        refused(self, NoFields, asked_fields, {("town", "word"): True})
        refused(self, NoFields, asked_fields, dict(TREES))

    def test_things_that_are_no_lists(self):
        for thing in not_lists():
            refused(self, NoFields, asked_fields, thing)
            refused(self, NoFields, Sheet, thing)

    def test_wrong_things_within(self):
        for place, fields in enumerate(wrong_fields()):
            with self.subTest(place=place):
                refused(self, NoFields, asked_fields, fields)
                refused(self, NoFields, Sheet, fields)

    def test_asking_changes_nothing(self):
        fields = list(TREES)
        asked_fields(fields)
        field_at(fields, "age")
        self.assertEqual(fields, TREES)


class FieldAt(unittest.TestCase):
    def test_each_name(self):
        for many in (1, 3, 8):
            fields = many_fields(many)
            self.assertEqual([field_at(fields, name) for name, kind in fields], list(range(many)))

    def test_texts_that_are_none_of_them(self):
        for text in ("", "Town", "tow", "towns", "town ", "town\n", "word", "number", "0", "-", "x" * 400):
            self.assertEqual(refused(self, NoField, field_at, TREES, text).name, text)


class Rows(unittest.TestCase):
    def test_told_as_tuples(self):
        sheet = trees()
        rows = [["oak", 7, "a1"], ("ash", -7, None), [None, None, None], ("0", 10 ** 60 - 1, "z" * 12)]
        for place, row in enumerate(rows):
            self.assertEqual(sheet.put(row), place)
            self.assertEqual(sheet.row(place), tuple(row))
            self.assertIs(type(sheet.row(place)), tuple)

    def test_first_wrong_thing(self):
        told = [
            (["Oak", 7, "a"], 0), (["oak", "7", "a"], 1), (["oak", 7, 7], 2), ([7, "oak", 7], 0), (["oak", "x", 1], 1),
            (["", 7, "a"], 0), (["-", 7, "a"], 0), (["oak", "-", "a"], 1), (["oak", 10 ** 60, "a"], 1),
            (["oak", -(10 ** 60), "a"], 1), (["oak", True, "a"], 1), (["oak", False, "a"], 1), (["oak", 7, "a\n"], 2),
            (["o" * 13, 7, "a"], 0), (["oak", 7, ["a"]], 2), ([["oak"], 7, "a"], 0), (["oak", 7.0, "a"], 1),
        ]
        for row, place in told:
            for given in (row, tuple(row)):
                self.assertEqual(refused(self, NoRow, trees().put, given).place, place, row)

    def test_things_of_every_plain_kind(self):
        for thing in not_texts():
            if thing is not None:
                self.assertEqual(refused(self, NoRow, trees().put, [thing, 7, "a"]).place, 0)
                self.assertEqual(refused(self, NoRow, trees().put, ("oak", 7, thing)).place, 2)
            if thing is not None and (type(thing) is not int or abs(thing) >= 10 ** 60):
                self.assertEqual(refused(self, NoRow, trees().put, ["oak", thing, "a"]).place, 1)

    def test_first_thing_without_a_field(self):
        for more in ([None], ["a"], [7], [True], [None] * 297, [[]]):
            self.assertEqual(refused(self, NoRow, trees().put, ["oak", 7, "a"] + more).place, 3)
        self.assertEqual(refused(self, NoRow, trees().put, ["oak", "7", "a", "b"]).place, 1)
        self.assertEqual(refused(self, NoRow, Sheet([("a", "word")]).put, ("b", "c")).place, 1)

    def test_how_many_there_are_where_some_lack(self):
        for row in ([], ["oak"], [None], ["oak", 7], [None, None]):
            self.assertEqual(refused(self, NoRow, trees().put, row).place, len(row))
            self.assertEqual(refused(self, NoRow, trees().put, tuple(row)).place, len(row))

    def test_wrong_thing_ahead_of_what_lacks(self):
        self.assertEqual(refused(self, NoRow, trees().put, [7]).place, 0)
        self.assertEqual(refused(self, NoRow, trees().put, ["oak", "7"]).place, 1)

    def test_turn_is_refused_likewise(self):
        for row, place in ((["Oak", 7, "a"], 0), (["oak", 7, "a", None], 3), ([], 0), (("oak", 7), 2), ((1, 2, 3), 0)):
            sheet = trees()
            sheet.put(("oak", 7, "a"))
            self.assertEqual(refused(self, NoRow, sheet.turn, 0, row).place, place)
            self.assertEqual(sheet.row(0), ("oak", 7, "a"))


class Numbers(unittest.TestCase):
    def test_empty(self):
        self.assertEqual(trees().numbers(), [])

    def test_from_nought_on(self):
        sheet = trees()
        self.assertEqual([sheet.put(("oak", age, None)) for age in range(5)], [0, 1, 2, 3, 4])
        self.assertEqual(sheet.numbers(), [0, 1, 2, 3, 4])

    def test_like_rows_get_numbers_of_their_own(self):
        sheet = trees()
        self.assertEqual([sheet.put(("oak", 7, "a")), sheet.put(("oak", 7, "a"))], [0, 1])
        self.assertEqual(sheet.out(0), ("oak", 7, "a"))
        self.assertEqual(sheet.numbers(), [1])

    def test_none_is_given_twice(self):
        sheet = trees()
        for age in range(3):
            sheet.put(("oak", age, None))
        self.assertEqual(sheet.out(2), ("oak", 2, None))
        self.assertEqual(sheet.put(("ash", 9, None)), 3)
        told = [sheet.out(number) for number in (0, 1, 3)]
        self.assertEqual(told, [("oak", 0, None), ("oak", 1, None), ("ash", 9, None)])
        self.assertEqual(sheet.numbers(), [])
        self.assertEqual(sheet.put(("elm", 1, None)), 4)
        self.assertEqual(sheet.numbers(), [4])

    def test_turn_tells_what_stood_there_and_keeps_the_number(self):
        sheet = trees()
        for age in range(3):
            sheet.put(("oak", age, None))
        self.assertEqual(sheet.turn(1, ["ash", 8, "b"]), ("oak", 1, None))
        self.assertEqual(sheet.row(1), ("ash", 8, "b"))
        self.assertEqual(sheet.turn(1, ("elm", 9, "c")), ("ash", 8, "b"))
        self.assertEqual(sheet.numbers(), [0, 1, 2])
        self.assertEqual([sheet.row(0), sheet.row(2)], [("oak", 0, None), ("oak", 2, None)])
        self.assertEqual(sheet.put(("oak", 3, None)), 3)

    def test_rising_behind_turns_and_gaps(self):
        sheet = trees()
        for age in range(300):
            sheet.put(("oak", age, None))
        for number in range(0, 300, 2):
            sheet.out(number)
        for number in (299, 1, 151):
            sheet.turn(number, ("ash", 1, None))
        self.assertEqual(sheet.put(("elm", 1, None)), 300)
        self.assertEqual(sheet.numbers(), list(range(1, 300, 2)) + [300])

    def test_three_hundred_rows_and_somewhat_more(self):
        sheet = Sheet([("a", "number")])
        self.assertEqual([sheet.put([number]) for number in range(310)], list(range(310)))


class NoSuchNumber(unittest.TestCase):
    def test_bears_the_number(self):
        sheet = trees()
        sheet.put(("oak", 7, "a"))
        sheet.put(("ash", 8, "b"))
        sheet.out(0)
        for number in (0, 2, 3, -1, -2, 10 ** 60 - 1, -(10 ** 59)):
            self.assertEqual(refused(self, NoSuch, sheet.row, number).number, number)
            self.assertEqual(refused(self, NoSuch, sheet.out, number).number, number)
            self.assertEqual(refused(self, NoSuch, sheet.turn, number, ("oak", 7, "a")).number, number)
        self.assertEqual(sheet.numbers(), [1])

    def test_of_an_empty_sheet(self):
        self.assertEqual(refused(self, NoSuch, trees().row, 0).number, 0)
        self.assertEqual(refused(self, NoSuch, trees().out, 0).number, 0)

    def test_taken_out_twice(self):
        sheet = trees()
        sheet.put(("oak", 7, "a"))
        sheet.out(0)
        self.assertEqual(refused(self, NoSuch, sheet.out, 0).number, 0)

    def test_goes_ahead_of_no_row(self):
        sheet = trees()
        sheet.put(("oak", 7, "a"))
        for row in ([], ["Oak", 7, "a"], ["oak", 7, "a", "b"]):
            self.assertEqual(refused(self, NoSuch, sheet.turn, 1, row).number, 1)


class RefusedChangesNothing(unittest.TestCase):
    def test_put_out_turn(self):
        sheet = trees()
        sheet.put(("oak", 7, "a"))
        sheet.put(("ash", 8, "b"))
        for row in ([], ["oak"], ["oak", "x", "a"], ["oak", 7, "a", "b"]):
            refused(self, NoRow, sheet.put, row)
            refused(self, NoRow, sheet.turn, 0, row)
            refused(self, NoSuch, sheet.turn, 2, row)
        refused(self, NoSuch, sheet.out, 2)
        refused(self, NoSuch, sheet.turn, 2, ("elm", 9, "c"))
        self.assertEqual(sheet.numbers(), [0, 1])
        self.assertEqual([sheet.row(0), sheet.row(1)], [("oak", 7, "a"), ("ash", 8, "b")])
        self.assertEqual(sheet.fields(), TREES)
        self.assertEqual(sheet.put(("elm", 9, "c")), 2)


class Apart(unittest.TestCase):
    def test_two_sheets(self):
        one = trees()
        other = trees()
        one.put(("oak", 7, "a"))
        one.put(("oak", 8, "a"))
        self.assertEqual(other.numbers(), [])
        self.assertEqual(other.put(("ash", 9, "b")), 0)
        one.out(0)
        one.turn(1, ("elm", 1, None))
        self.assertEqual((other.numbers(), other.row(0)), ([0], ("ash", 9, "b")))
        self.assertEqual((one.numbers(), one.row(1)), ([1], ("elm", 1, None)))

    def test_two_sheets_of_one_list_of_fields(self):
        fields = [("a", "number")]
        one = Sheet(fields)
        fields.append(("b", "word"))
        other = Sheet(fields)
        self.assertEqual((one.put([1]), other.put([2, "x"])), (0, 0))
        self.assertEqual((one.row(0), other.row(0)), ((1,), (2, "x")))

    def test_fields_that_were_handed_in(self):
        fields = list(TREES)
        sheet = Sheet(fields)
        self.assertEqual(fields, TREES)
        fields.clear()
        fields.append(("x", "number"))
        self.assertEqual(sheet.fields(), TREES)
        self.assertEqual(sheet.put(("oak", 7, "a")), 0)

    def test_fields_that_were_told(self):
        sheet = trees()
        told = sheet.fields()
        told.clear()
        self.assertEqual(sheet.fields(), TREES)
        self.assertEqual([type(field) for field in sheet.fields()], [tuple] * 3)
        self.assertEqual(sheet.put(("oak", 7, "a")), 0)

    def test_rows_that_were_handed_in(self):
        sheet = trees()
        row = ["oak", 7, "a"]
        sheet.put(row)
        self.assertEqual(row, ["oak", 7, "a"])
        row[0] = "ash"
        self.assertEqual(sheet.row(0), ("oak", 7, "a"))
        other = ["elm", 8, None]
        sheet.turn(0, other)
        self.assertEqual(other, ["elm", 8, None])
        other.clear()
        self.assertEqual(sheet.row(0), ("elm", 8, None))

    def test_numbers_that_were_told(self):
        sheet = trees()
        sheet.put(("oak", 7, "a"))
        told = sheet.numbers()
        sheet.put(("ash", 8, "b"))
        self.assertEqual(told, [0])
        told.clear()
        self.assertEqual(sheet.numbers(), [0, 1])


class ManyDeeds(unittest.TestCase):
    """[3]: behind any deeds a sheet has the rows that are there, beside a plain reckoning of them."""

    def test_beside_a_plain_reckoning(self):
        for seed in range(30):
            chance = random.Random(seed)
            sheet = trees()
            there = []
            for step in range(120):
                self.one_deed(chance, sheet, there)
                self.assertEqual(sheet.numbers(), [at for at, row in enumerate(there) if row is not None])
            for number, row in enumerate(there):
                if row is not None:
                    self.assertEqual(sheet.row(number), row)

    def one_deed(self, chance, sheet, there):
        row = (chance.choice(["oak", "ash", None]), chance.choice([0, -5, 10 ** 40, None]), chance.choice(["a", None]))
        number = chance.randrange(len(there) + 2)
        deed = chance.choice(["put", "out", "turn", "wrong"])
        if deed == "put":
            self.assertEqual(sheet.put(list(row)), len(there))
            there.append(row)
        elif deed == "wrong":
            refused(self, NoRow, sheet.put, row[:2])
        elif number >= len(there) or there[number] is None:
            refused(self, NoSuch, sheet.out, number)
            refused(self, NoSuch, sheet.turn, number, row)
        elif deed == "out":
            self.assertEqual(sheet.out(number), there[number])
            there[number] = None
        else:
            self.assertEqual(sheet.turn(number, row), there[number])
            there[number] = row


class Interface(unittest.TestCase):
    def test_arguments(self):
        told = {
            sheets.asked_fields: ["fields"], sheets.field_at: ["fields", "name"], Sheet: ["fields"],
            Sheet.fields: ["self"], Sheet.put: ["self", "row"], Sheet.out: ["self", "number"],
            Sheet.turn: ["self", "number", "row"], Sheet.row: ["self", "number"], Sheet.numbers: ["self"],
        }
        for asked, arguments in told.items():
            self.assertEqual(list(inspect.signature(asked).parameters), arguments)


if __name__ == "__main__":
    unittest.main()
