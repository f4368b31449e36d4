"""[4] names, words, values, how they are written and read; [7] their order."""

import inspect
import unittest

from crosshall import values
from crosshall.values import ahead, is_name, is_value, is_word, read_value, written
from helper import not_texts

LETTERS = "abcdefghijklmnopqrstuvwxyz"
FIGURES = "0123456789"
# The neighbours of a, z, 0 and 9 among the signs, and what Python's own questions might let by.
STRANGE = " !-+_./:@AZ[`{|}~%\n\t\r\0" + "\u00e9\u00df\u0660\u00b2\uff11\uff41"


def with_sign(sign):
    """Texts of right lengths with the sign at the first, a middle and the last place."""
    short = [sign, sign + "ab", "a" + sign + "b", "ab" + sign]
    return short + [sign + "a" * 11, "a" * 6 + sign + "a" * 5, "a" * 11 + sign]


class Names(unittest.TestCase):
    def test_lengths(self):
        for length, answer in ((0, False), (1, True), (2, True), (11, True), (12, True), (13, False), (400, False)):
            with self.subTest(length=length):
                self.assertIs(is_name("q" * length), answer)

    def test_letters_at_each_place(self):
        for sign in LETTERS:
            for text in with_sign(sign):
                self.assertIs(is_name(text), True, text)

    def test_figures_and_strange_signs_at_each_place(self):
        for sign in FIGURES + STRANGE:
            for text in with_sign(sign):
                self.assertIs(is_name(text), False, text)

    def test_line_feed_behind_a_name(self):
        self.assertIs(is_name("town\n"), False)
        self.assertIs(is_name("\ntown"), False)

    def test_things_that_are_no_texts(self):
        for thing in not_texts():
            self.assertIs(is_name(thing), False)


class Words(unittest.TestCase):
    def test_lengths(self):
        for length, answer in ((0, False), (1, True), (2, True), (11, True), (12, True), (13, False), (400, False)):
            for sign in "q7":
                with self.subTest(length=length, sign=sign):
                    self.assertIs(is_word(sign * length), answer)

    def test_letters_and_figures_at_each_place(self):
        for sign in LETTERS + FIGURES:
            for text in with_sign(sign):
                self.assertIs(is_word(text), True, text)

    def test_strange_signs_at_each_place(self):
        for sign in STRANGE:
            for text in with_sign(sign):
                self.assertIs(is_word(text), False, text)

    def test_things_that_are_no_texts(self):
        for thing in not_texts():
            self.assertIs(is_word(thing), False)


class Values(unittest.TestCase):
    def test_none_is_of_each_kind(self):
        self.assertIs(is_value("word", None), True)
        self.assertIs(is_value("number", None), True)

    def test_words(self):
        for text in ("a", "oak", "007", "0", "x1", "abcdefghijkl", "012345678901"):
            self.assertIs(is_value("word", text), True, text)
            self.assertIs(is_value("number", text), False, text)

    def test_texts_that_are_no_words(self):
        for text in ("", "-", "Oak", "oak ", "oak\n", "-1", "a" * 13):
            self.assertIs(is_value("word", text), False, text)
            self.assertIs(is_value("number", text), False, text)

    def test_numbers(self):
        for number in (0, 1, -1, 7, 10 ** 59, -(10 ** 59), 10 ** 60 - 1, -(10 ** 60) + 1):
            self.assertIs(is_value("number", number), True, number)
            self.assertIs(is_value("word", number), False, number)

    def test_numbers_of_more_than_sixty_figures(self):
        for number in (10 ** 60, -(10 ** 60), 10 ** 60 + 1, 10 ** 61, 10 ** 5000, -(10 ** 5000)):
            self.assertIs(is_value("number", number), False)
            self.assertIs(is_value("word", number), False)

    def test_truths_are_no_numbers(self):
        for truth in (True, False):
            self.assertIs(is_value("number", truth), False)
            self.assertIs(is_value("word", truth), False)

    def test_things_of_other_kinds(self):
        for thing in not_texts():
            if thing is not None and type(thing) is not int:
                self.assertIs(is_value("number", thing), False)
                self.assertIs(is_value("word", thing), False)


class Written(unittest.TestCase):
    def test_words_and_none(self):
        self.assertEqual(written(None), "-")
        for word in ("a", "oak", "007", "all", "abcdefghijkl"):
            self.assertEqual(written(word), word)

    def test_numbers(self):
        for number, text in ((0, "0"), (7, "7"), (-7, "-7"), (10, "10"), (-100, "-100")):
            self.assertEqual(written(number), text)

    def test_numbers_of_sixty_figures(self):
        self.assertEqual(written(10 ** 60 - 1), "9" * 60)
        self.assertEqual(written(-(10 ** 60) + 1), "-" + "9" * 60)
        self.assertEqual(written(10 ** 59), "1" + "0" * 59)

    def test_somewhat_beyond(self):
        self.assertEqual(written(10 ** 63), "1" + "0" * 63)


class Read(unittest.TestCase):
    def test_words(self):
        for text in ("a", "oak", "007", "0", "7", "x1", "abcdefghijkl"):
            self.assertEqual(read_value("word", text), text)

    def test_texts_that_write_no_word(self):
        for text in ("", "-", "-7", "Oak", " oak", "oak ", "o k", "oak\n", "\noak", "\n", "a" * 13, "a" * 400):
            self.assertIsNone(read_value("word", text), text)

    def test_numbers(self):
        for number in (0, 1, 9, 10, -1, -9, -10, 100, 10 ** 59, -(10 ** 59), 10 ** 60 - 1, -(10 ** 60) + 1):
            answer = read_value("number", str(number))
            self.assertEqual(answer, number)
            self.assertIs(type(answer), int)

    def test_texts_that_write_no_number(self):
        texts = [
            "", "-", "--", "--7", "-0", "-00", "00", "01", "-01", "007", "+7", "+0", "+", "7-", "7-7", " 7", "7 ", " ",
            "- 7", "1 000", "1_000", "1,000", "1.0", "7.", "1e3", "0x7", "7\n", "\n7", "\n", "-7\n", "0\n", "-\n7",
            "oak", "a7", "7a", "\u0667", "\u00b2", "\uff17", "None", "True",
        ]
        for text in texts:
            self.assertIsNone(read_value("number", text), repr(text))

    def test_texts_of_more_than_sixty_figures(self):
        for figures in ("1" + "0" * 60, "9" * 61, "9" * 400, "9" * 6000, "0" * 61):
            self.assertIsNone(read_value("number", figures))
            self.assertIsNone(read_value("number", "-" + figures))

    def test_what_is_written_is_read(self):
        for number in range(-1200, 1200):
            self.assertEqual(read_value("number", written(number)), number)
        self.assertIsNone(read_value("number", written(None)))
        self.assertIsNone(read_value("word", written(None)))

    def test_of_short_texts_only_those_that_are_written_so(self):
        signs = "-019a \n"
        texts = [""]
        for text in texts:
            if len(text) < 4:
                texts.extend([text + sign for sign in signs])
            number = read_value("number", text)
            self.assertTrue(number is None or str(number) == text, repr(text))
        read = [text for text in texts if read_value("number", text) is not None]
        # 0, and by lengths: 1 or 9 first, then 0, 1 or 9; with `-` ahead one figure fewer.
        self.assertEqual(len(read), 1 + (2 + 6 + 18 + 54) + (2 + 6 + 18))


class Order(unittest.TestCase):
    def assert_order(self, rising):
        for left, one in enumerate(rising):
            for right, other in enumerate(rising):
                self.assertIs(ahead(one, other), left < right, (one, other))

    def test_words_as_texts(self):
        self.assert_order(["0", "00", "1", "10", "2", "9", "9z", "a", "a0", "aa", "ab", "b", "ba", "z", "zz", None])

    def test_beginning_ahead_of_the_longer_word(self):
        self.assertIs(ahead("oak", "oaks"), True)
        self.assertIs(ahead("oaks", "oak"), False)
        self.assertIs(ahead("oak", "oak0"), True)

    def test_numbers_by_size(self):
        self.assert_order([-(10 ** 60) + 1, -100, -99, -10, -9, -1, 0, 1, 2, 9, 10, 99, 100, 10 ** 60 - 1, None])

    def test_nothing_ahead_of_itself(self):
        for value in (None, "oak", "0", 0, -3, 10 ** 59):
            self.assertIs(ahead(value, value), False)


class Interface(unittest.TestCase):
    def test_arguments(self):
        told = {
            "is_name": ["thing"], "is_word": ["thing"], "is_value": ["kind", "thing"], "written": ["value"],
            "read_value": ["kind", "text"], "ahead": ["one", "other"],
        }
        for name, arguments in told.items():
            self.assertEqual(list(inspect.signature(getattr(values, name)).parameters), arguments)


if __name__ == "__main__":
    unittest.main()
