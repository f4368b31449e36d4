"""[10] how sieves are written and read; the bounds of [8], the refusals of [9] behind them."""

import inspect
import itertools
import random
import re
import unittest

from crosshall import sieve_texts
from crosshall.errors import NoField, NoKind, NoSieve
from crosshall.sieve_texts import read_sieve, shown_sieve
from helper import TREES, leaves, levels_of, random_sieve, refused, sieves_in

FIELDS = TREES + [("a", "word"), ("n", "number")]

WRITTEN = [
    (("is", "town", "oak"), "town=oak"), (("is", "town", "007"), "town=007"), (("is", "town", "0"), "town=0"),
    (("is", "town", "a" * 12), "town=aaaaaaaaaaaa"), (("is", "age", 7), "age=7"), (("is", "age", 0), "age=0"),
    (("is", "age", -7), "age=-7"), (("is", "age", 10 ** 60 - 1), "age=" + "9" * 60),
    (("is", "age", -(10 ** 60) + 1), "age=-" + "9" * 60),
    (("under", "age", 7), "age<7"), (("under", "age", -7), "age<-7"), (("under", "age", 0), "age<0"),
    (("under", "age", 10 ** 59), "age<1" + "0" * 59), (("under", "age", -(10 ** 59)), "age<-1" + "0" * 59),
    (("over", "age", 7), "age>7"), (("over", "age", -70), "age>-70"), (("over", "age", 0), "age>0"),
    (("over", "age", 10 ** 60 - 1), "age>" + "9" * 60), (("over", "age", -(10 ** 60) + 1), "age>-" + "9" * 60),
    (("lacks", "town"), "town?"), (("lacks", "age"), "age?"),
    (("not", ("lacks", "town")), "!town?"), (("not", ("not", ("under", "age", 7))), "!!age<7"),
    (("all", ()), "(&)"), (("some", ()), "(|)"), (("not", ("all", ())), "!(&)"),
    (("all", (("lacks", "age"),)), "(&age?)"), (("some", (("lacks", "age"),)), "(|age?)"),
    (("all", (("is", "town", "oak"), ("over", "age", 7))), "(&town=oak&age>7)"),
    (("some", (("is", "town", "oak"), ("over", "age", 7), ("lacks", "kind"))), "(|town=oak|age>7|kind?)"),
    (("all", (("all", ()), ("some", ()))), "(&(&)&(|))"), (("some", (("all", ()), ("some", ()))), "(|(&)|(|))"),
    (
        ("all", (("is", "town", "oak"), ("not", ("some", (("under", "age", 7), ("lacks", "age")))))),
        "(&town=oak&!(|age<7|age?))",
    ),
]

LEAF = r"(?<![a-z0-9-])[a-z]{1,12}(=[a-z0-9-]{1,61}|[<>](0|-?[1-9][0-9]{0,59})|\?)(?![a-z0-9-])"


def is_written_so(text):
    """Whether a sieve is written so, bounds aside: reckoned another way, by putting S in the place of each sieve."""
    if "S" in text:
        return False
    text = re.sub(LEAF, "S", text)
    before = None
    while text != before:
        before = text
        text = re.sub(r"!S|\(&(S(&S)*)?\)|\(\|(S(\|S)*)?\)", "S", text)
    return text == "S"


def deep_texts(levels):
    """Texts of sieves of just so many levels."""
    more = levels - 1
    told = ["!" * more + "age?", "(&" * more + "age?" + ")" * more, "(|" * more + "age?" + ")" * more]
    told += ["!" * more + "(&)", "(&" * levels + ")" * levels, "(&age?&" * more + "age?" + ")" * more]
    return told + ["(|age?|" + "!" * (more - 1) + "age<7)"] * (more > 0)


def wide_texts(many):
    """Texts of sieves of just so many sieves, in few levels."""
    ages = ["age?"] * (many - 1)
    told = ["(&" + "&".join(ages) + ")", "(|" + "|".join(ages) + ")"]
    told += ["(&" + "&".join(["(|)"] * (many - 1)) + ")", "!(|" + "|".join(ages[1:]) + ")"]
    half = "(|" + "|".join(["age<7"] * (many // 2 - 1)) + ")"
    rest = ["town=oak"] * (many - 1 - many // 2)
    return told + ["(&" + "&".join([half] + rest) + ")", "(&" + "&".join(rest + [half]) + ")"]


class Shown(unittest.TestCase):
    def test_each_form(self):
        for sieve, text in WRITTEN:
            self.assertEqual(shown_sieve(sieve), text)

    def test_names_of_no_field(self):
        self.assertEqual(shown_sieve(("is", "x", "y")), "x=y")
        self.assertEqual(shown_sieve(("not", ("lacks", "Some Name"))), "!Some Name?")
        self.assertEqual(shown_sieve(("under", "", 7)), "<7")

    def test_somewhat_beyond_the_bounds(self):
        sieve = ("lacks", "age")
        for level in range(19):
            sieve = ("not", sieve)
        self.assertEqual(shown_sieve(sieve), "!" * 19 + "age?")
        self.assertEqual(shown_sieve(("all", (("lacks", "age"),) * 80)), "(&" + "&".join(["age?"] * 80) + ")")
        self.assertEqual(shown_sieve(("is", "age", 10 ** 60)), "age=1" + "0" * 60)


class Read(unittest.TestCase):
    def test_each_form(self):
        for sieve, text in WRITTEN:
            self.assertEqual(read_sieve(TREES, text), sieve)

    def test_kinds_of_what_is_told(self):
        told = read_sieve(TREES, "(&town=7&age=7&age<7&!(|age?))")
        self.assertEqual(told[1][0], ("is", "town", "7"))
        self.assertEqual([type(told), type(told[1]), type(told[1][0])], [tuple] * 3)
        self.assertEqual([type(told[1][at][2]) for at in range(3)], [str, int, int])
        self.assertIs(type(told[1][3][1][1]), tuple)

    def test_value_by_the_kind_of_the_field(self):
        self.assertEqual(read_sieve([("a", "word")], "a=12"), ("is", "a", "12"))
        self.assertEqual(read_sieve([("a", "number")], "a=12"), ("is", "a", 12))

    def test_written_and_read_again(self):
        chance = random.Random(10)
        many = 0
        for turn in range(600):
            sieve = random_sieve(chance, TREES, 1 + turn % 6)
            if sieves_in(sieve) <= 60:
                many += 1
                self.assertEqual(read_sieve(TREES, shown_sieve(sieve)), sieve)
        self.assertGreater(many, 500)

    def test_names_of_twelve_letters(self):
        self.assertEqual(read_sieve([("a" * 12, "word")], "a" * 12 + "?"), ("lacks", "a" * 12))


class NoneWritten(unittest.TestCase):
    def assert_none(self, texts):
        for text in texts:
            refused(self, NoSieve, read_sieve, TREES, text)

    def test_texts_that_are_no_sieves(self):
        self.assert_none([
            "", "-", "town", "town=", "=oak", "?", "town??", "town=oak?", "town==oak", "age<", "age>", "<7", ">7",
            "age<=7", "age=<7", "age<>7", "age7", "7", "7<age", "!", "!!", "town?!", "(", ")", "()", "(town?)",
            "(&", "(|", "&", "|", "(&)(&)", "(&))", "((&)", "(&)&(&)", "town?&age?", "town?|age?", "(&town?", "&town?)",
            "(&town?|age?)", "(|town?&age?)", "(&&)", "(||)", "(&|)", "(|&)", "(&&town?)", "(&town?&)", "(|town?|)",
            "(&town?&&age?)", "(& town?)", "(&town?age?)", "town?age?", "(!&town?)", "(&!)", "!town", "all", "(all)",
            "town?)", "(&town?))", "town!=oak", "!=", "town=oak&", "town=(&)", "town=!oak", "(&town=oak,age?)",
            "(^town?)", "[&town?]", "town~oak", "town=oak;", "town:oak", "(&(|)", "(&(|)|", "age<7=", "age<(7)",
        ])

    def test_blanks_and_line_feeds(self):
        for text in ("town=oak", "age<7", "town?", "!age?", "(&town=oak&!(|age<7|age?))", "(&)"):
            for sign in (" ", "\n", "\t", "\r"):
                for at in range(len(text) + 1):
                    refused(self, NoSieve, read_sieve, TREES, text[:at] + sign + text[at:])
        self.assert_none([" ", "\n", "\n\n", "  ", "town=\n", "town= "])

    def test_signs_of_no_name_and_no_value(self):
        signs = "ABZ_./:;@`{}[]~+*,'\"#$^\\" + "\u00e9\u0667\u00b2\uff17\uff41"
        for sign in signs:
            self.assert_none([sign + "?", "t" + sign + "?", sign + "own?", "town=" + sign, "town=o" + sign + "k"])
            self.assert_none(["age<" + sign, "age<7" + sign, "age>" + sign + "7", "town?" + sign, sign])
        for sign in "0123456789-":
            self.assert_none([sign + "?", "town" + sign + "?", sign + "town=oak", "to" + sign + "wn<7"])

    def test_names_of_thirteen_letters(self):
        fields = [("a" * 12, "number")]
        for behind in ("?", "=7", "<7", ">7"):
            refused(self, NoSieve, read_sieve, fields, "a" * 13 + behind)
            refused(self, NoSieve, read_sieve, fields, "(&" + "a" * 400 + behind + ")")
            refused(self, NoSieve, read_sieve, fields, behind)

    def test_values_of_one_to_61_signs(self):
        # One of 61 signs is a sieve, and is then refused by the field's kind, but for a number below 0.
        for sign in "az09-":
            for name in ("town", "age", "x"):
                refused(self, NoSieve, read_sieve, TREES, name + "=")
                refused(self, NoSieve, read_sieve, TREES, name + "=" + sign * 62)
                refused(self, NoSieve, read_sieve, TREES, name + "=" + sign * 400)
                error = NoField if name == "x" else NoKind
                self.assertEqual(refused(self, error, read_sieve, TREES, name + "=" + sign * 61).name, name)
        self.assertEqual(read_sieve(TREES, "age=-" + "9" * 60), ("is", "age", -(10 ** 60) + 1))
        self.assertEqual(read_sieve(TREES, "town=z"), ("is", "town", "z"))
        self.assertEqual(read_sieve(TREES, "age=9"), ("is", "age", 9))

    def test_bounds_that_are_no_numbers(self):
        wrong = ["", "-", "-0", "00", "01", "-01", "007", "--7", "7-", "7-7", "+7", "7a", "a", "oak", "1e3", "-a"]
        wrong += ["0-", "-00"]
        wrong += ["1" + "0" * 60, "-1" + "0" * 60, "9" * 61, "9" * 62, "9" * 5000, "-" + "9" * 61, "0" * 60, "0" * 61]
        for number in wrong:
            for name in ("age", "town", "x"):
                self.assert_none([name + "<" + number, name + ">" + number, "(&age?&" + name + "<" + number + ")"])

    def test_beside_a_plain_reckoning_of_short_texts(self):
        seen = {True: 0, False: 0}
        for length in range(6):
            for signs in itertools.product("a0-=<?!&|()", repeat=length):
                self.assert_as_reckoned("".join(signs), seen)
        self.assertGreater(seen[True], 50)

    def test_beside_a_plain_reckoning_of_spoilt_texts(self):
        chance = random.Random(11)
        seen = {True: 0, False: 0}
        for turn in range(4000):
            text = shown_sieve(random_sieve(chance, TREES, 1 + turn % 4))
            for time in range(1 + turn % 2):
                at = chance.randrange(len(text) + 1)
                more = chance.choice("an07-=<>?!&|() \n") * chance.randrange(2)
                text = text[:at] + more + text[at + chance.randrange(2):]
            self.assert_as_reckoned(text, seen)
        self.assertGreater(min(seen.values()), 500)

    def assert_as_reckoned(self, text, seen):
        right = is_written_so(text)
        try:
            told = read_sieve(FIELDS, text)
        except NoSieve:
            self.assertFalse(right, repr(text))
        except (NoField, NoKind):
            self.assertTrue(right, repr(text))
        else:
            self.assertTrue(right, repr(text))
            self.assertEqual(shown_sieve(told), text)
        seen[right] += 1


class Bounds(unittest.TestCase):
    def test_twelve_levels(self):
        for levels in (1, 2, 11, 12):
            for text in deep_texts(levels):
                told = read_sieve(TREES, text)
                self.assertEqual((levels_of(told), shown_sieve(told)), (levels, text))

    def test_thirteen_levels(self):
        for levels in (13, 14, 20, 58):
            for text in deep_texts(levels):
                refused(self, NoSieve, read_sieve, TREES, text)

    def test_level_is_that_of_the_deepest(self):
        ten = "!" * 10 + "age?"
        for text in ("(&age?&" + ten + "&age?)", "(&" + ten + "&age?)", "(&age?&" + ten + ")"):
            self.assertEqual(levels_of(read_sieve(TREES, text)), 12)
            refused(self, NoSieve, read_sieve, TREES, text.replace("!" * 10, "!" * 11))

    def test_sixty_sieves(self):
        for many in (4, 59, 60):
            for text in wide_texts(many):
                told = read_sieve(TREES, text)
                self.assertEqual((sieves_in(told), shown_sieve(told)), (many, text))

    def test_sixty_one_sieves(self):
        for many in (61, 62, 200):
            for text in wide_texts(many):
                refused(self, NoSieve, read_sieve, TREES, text)

    def test_twelve_levels_and_sixty_sieves(self):
        text = "!" * 10 + "(&" + "&".join(["age?"] * 49) + ")"
        told = read_sieve(TREES, text)
        self.assertEqual((levels_of(told), sieves_in(told)), (12, 60))
        refused(self, NoSieve, read_sieve, TREES, "!" + text)
        refused(self, NoSieve, read_sieve, TREES, text[:-1] + "&age?)")

    def test_thousands_of_levels(self):
        texts = ["!" * 5996 + "age?", "!" * 6000, "(&" * 3000, "(|" * 3000, "(" * 6000, ")" * 6000, "(&!" * 2000]
        texts += ["(&" * 2000 + ")" * 2000, "(|" * 1900 + "age?" + ")" * 1900, "(&(|" * 900 + "))" * 900]
        texts += ["!(&" * 1500 + ")" * 1500, "(&age?&" * 750 + ")" * 750, "(&age?&" * 700 + "age?" + ")" * 700]
        for text in texts:
            self.assertLessEqual(len(text), 6000)
            refused(self, NoSieve, read_sieve, TREES, text)

    def test_thousands_of_sieves_and_signs(self):
        texts = ["(&" + "age?&" * 1198 + "age?)", "(|" + "(&)|" * 1000 + "age?)", "(&" + "&" * 5000 + ")"]
        texts += ["age?" * 1500, "a" * 6000, "9" * 6000, "-" * 6000, "age<" + "9" * 5996, "town=" + "a" * 5995]
        texts += ["\n" * 6000, " " * 6000]
        for text in texts:
            refused(self, NoSieve, read_sieve, TREES, text)


class RefusedByFields(unittest.TestCase):
    def test_names_of_no_field(self):
        for behind in ("=oak", "=7", "=-", "=---", "<7", ">-7", "?"):
            for text in ("x{}", "!x{}", "(&x{})", "(|age?|!(&x{}))"):
                self.assertEqual(refused(self, NoField, read_sieve, TREES, text.format(behind)).name, "x")

    def test_names_that_begin_like_one(self):
        for name in ("tow", "towns", "ag", "ages", "word", "number"):
            self.assertEqual(refused(self, NoField, read_sieve, TREES, name + "?").name, name)

    def test_under_and_over_of_words(self):
        for text in ("town<7", "town>7", "town<-7", "town>0", "!town<7", "(&town>7)", "town<" + "9" * 60):
            self.assertEqual(refused(self, NoKind, read_sieve, TREES, text).name, "town")

    def test_values_that_are_read_to_none(self):
        for value in ("-", "--", "-7", "o-k", "oak-", "-oak", "a" * 13, "7" * 13, "a" * 61):
            self.assertEqual(refused(self, NoKind, read_sieve, TREES, "town=" + value).name, "town")
        for value in ("-", "--", "-0", "00", "01", "-01", "007", "--7", "7-", "7-7", "oak", "7a", "1e3", "a"):
            self.assertEqual(refused(self, NoKind, read_sieve, TREES, "age=" + value).name, "age")
        for value in ("1" + "0" * 60, "9" * 61, "0" * 60, "0" * 61, "-" * 61, "-0" + "9" * 59):
            self.assertEqual(refused(self, NoKind, read_sieve, TREES, "age=" + value).name, "age")

    def test_first_one_goes_first(self):
        told = [
            ("(&x?&town<7)", NoField, "x"), ("(&town<7&x?)", NoKind, "town"), ("(|age=oak|x=y)", NoKind, "age"),
            ("(|x=y|age=oak)", NoField, "x"), ("(&age=7&!(|town>7|x?)&y?)", NoKind, "town"),
            ("(&(|)&!!x<7&age=-)", NoField, "x"), ("(&(&(&age=-))&town=-)", NoKind, "age"),
            ("(&town=-&age=-)", NoKind, "town"), ("(&y?&x?)", NoField, "y"),
            ("(&town=oak&age>7&kind=-1&x?)", NoKind, "kind"),
        ]
        for text, error, name in told:
            self.assertEqual(refused(self, error, read_sieve, TREES, text).name, name)

    def test_no_sieve_goes_ahead(self):
        texts = ["x?&", "(&x?", "(&town<7&)", "(&x?&age<007)", "(&town<7&age<-0)", "(|age=oak|X?)", "x=oak\n"]
        texts += ["town<7 ", "!" * 12 + "x?", "!" * 12 + "town<7", "(&x?" + "&age?" * 59 + ")"]
        texts += ["(&town=-" + "&age?" * 59 + ")"]
        texts += ["(&x?&age<" + "9" * 61 + ")", "(&age=oak&town=" + "a" * 62 + ")", "(&town=-&" + "a" * 13 + "?)"]
        for text in texts:
            refused(self, NoSieve, read_sieve, TREES, text)

    def test_beside_a_plain_reckoning(self):
        chance = random.Random(12)
        kinds = dict(TREES)
        wrong = TREES + [("x", "word"), ("y", "number"), ("town", "number"), ("age", "word")]
        seen = {NoField: 0, NoKind: 0, None: 0}
        for turn in range(600):
            sieve = random_sieve(chance, wrong, 1 + turn % 4)
            due = (None, None)
            for leaf in reversed(leaves(sieve)):
                if leaf[1] not in kinds:
                    due = (NoField, leaf[1])
                elif leaf[0] in ("under", "over") and kinds[leaf[1]] == "word":
                    due = (NoKind, leaf[1])
                elif leaf[0] == "is" and not self.is_read(kinds[leaf[1]], str(leaf[2])):
                    due = (NoKind, leaf[1])
            seen[due[0]] += 1
            if due[0] is None:
                self.assertEqual(shown_sieve(read_sieve(TREES, shown_sieve(sieve))), shown_sieve(sieve))
            else:
                self.assertEqual(refused(self, due[0], read_sieve, TREES, shown_sieve(sieve)).name, due[1])
        self.assertGreater(min(seen.values()), 50)

    def is_read(self, kind, text):
        if kind == "word":
            return re.fullmatch("[a-z0-9]{1,12}", text) is not None
        return re.fullmatch("0|-?[1-9][0-9]{0,59}", text) is not None


class Unchanged(unittest.TestCase):
    def test_fields(self):
        fields = list(TREES)
        read_sieve(fields, "(&town=oak&!(|age<7|age?))")
        refused(self, NoSieve, read_sieve, fields, "town")
        refused(self, NoField, read_sieve, fields, "x?")
        refused(self, NoKind, read_sieve, fields, "town<7")
        self.assertEqual(fields, TREES)

    def test_each_asking_by_itself(self):
        refused(self, NoSieve, read_sieve, TREES, "!" * 5000)
        for time in range(100):
            self.assertEqual(read_sieve(TREES, "(&age?)"), ("all", (("lacks", "age"),)))


class Interface(unittest.TestCase):
    def test_arguments(self):
        told = {"shown_sieve": ["sieve"], "read_sieve": ["fields", "text"]}
        for name, arguments in told.items():
            self.assertEqual(list(inspect.signature(getattr(sieve_texts, name)).parameters), arguments)


if __name__ == "__main__":
    unittest.main()
