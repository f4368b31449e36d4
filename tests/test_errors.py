"""[2] and the interface of crosshall/errors.py."""

import unittest

from crosshall import errors

OF_A_TEXT = ["NoFields", "NoSieve", "NoView", "NoHead", "NoNet", "NoWhole", "NoGroups", "NoLine"]
OF_A_THING = {
    "NoRow": ("place", [0, 3, 300]),
    "NoSuch": ("number", [0, -1, 10 ** 60 - 1, 10 ** 5000]),
    "NoField": ("name", ["", "town", "no such\nname"]),
    "NoKind": ("name", ["", "age", "x" * 400]),
    "NoVeil": ("cell", [(0, 0), (5, -1)]),
}


class Classes(unittest.TestCase):
    def test_base_stands_under_value_error(self):
        self.assertEqual(errors.CrossError.__bases__, (ValueError,))

    def test_each_stands_straight_under_the_base(self):
        for name in OF_A_TEXT + list(OF_A_THING):
            with self.subTest(name=name):
                self.assertEqual(getattr(errors, name).__bases__, (errors.CrossError,))
                self.assertTrue(issubclass(getattr(errors, name), ValueError))

    def test_none_stands_under_another_one(self):
        names = OF_A_TEXT + list(OF_A_THING)
        for one in names:
            for other in names:
                under = issubclass(getattr(errors, one), getattr(errors, other))
                self.assertEqual(under, one == other, (one, other))

    def test_no_two_names_are_one_class(self):
        names = OF_A_TEXT + list(OF_A_THING)
        self.assertEqual(len({getattr(errors, name) for name in names}), 13)


class Made(unittest.TestCase):
    def test_made_of_one_text(self):
        for name in OF_A_TEXT + ["CrossError"]:
            with self.subTest(name=name):
                with self.assertRaises(getattr(errors, name)) as caught:
                    raise getattr(errors, name)("some words")
                self.assertEqual(str(caught.exception), "some words")

    def test_made_of_one_thing_that_is_kept(self):
        for name, (value, things) in OF_A_THING.items():
            for thing in things:
                with self.subTest(name=name, value=value):
                    with self.assertRaises(errors.CrossError) as caught:
                        raise getattr(errors, name)(thing)
                    self.assertEqual(getattr(caught.exception, value), thing)
                    self.assertIs(type(getattr(caught.exception, value)), type(thing))

    def test_value_is_each_objects_own(self):
        one = errors.NoRow(1)
        other = errors.NoRow(2)
        self.assertEqual((one.place, other.place), (1, 2))

    def test_made_of_one_thing_alone(self):
        for name in OF_A_THING:
            with self.subTest(name=name):
                self.assertRaises(TypeError, getattr(errors, name))
                self.assertRaises(TypeError, getattr(errors, name), 1, 2)


if __name__ == "__main__":
    unittest.main()
