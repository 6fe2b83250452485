"""Promise 4: the refusals and what they are made with."""

import unittest

from selvage import errors

WITH_TEXT = (
    "NoKind", "NoPlace", "TooLong", "NoFit", "NoParting", "Closed",
    "TooBig", "Short", "Full", "NoRoll", "NoDeed", "NoLine",
)
WITH_PLACE = ("NotATable", "NotARoll", "NotAnOrder")
WITH_MOST = ("TooMany",)
ALL = WITH_TEXT + WITH_PLACE + WITH_MOST

WIDE = 10 ** 60 - 1
NUMBERS = (0, 1, -1, 7, 8, 199, 200, 203, 10 ** 18, WIDE, -WIDE)
TEXTS = ("", " ", "a", "no such kind", "~" * 300, "{at} \\ ' \"", "12")


def class_of(name):
    return getattr(errors, name)


def made(name):
    return class_of(name)("some words" if name in WITH_TEXT else 3)


class TestErrors(unittest.TestCase):
    def test_there_are_sixteen(self):
        self.assertEqual(len(set(ALL)), 16)
        here = [
            name for name, value in vars(errors).items()
            if isinstance(value, type) and value is not errors.CutError
        ]
        self.assertEqual(sorted(here), sorted(ALL))

    def test_bases(self):
        self.assertEqual(errors.CutError.__bases__, (ValueError,))
        for name in ALL:
            self.assertEqual(class_of(name).__bases__, (errors.CutError,), name)

    def test_caught_as_cut_error_and_value_error(self):
        for name in ALL:
            for base in (class_of(name), errors.CutError, ValueError):
                with self.subTest(name=name, base=base), self.assertRaises(base):
                    raise made(name)

    def test_caught_as_none_of_the_others(self):
        for name in ALL:
            for other in ALL:
                if other != name:
                    self.assertNotIsInstance(made(name), class_of(other))

    def test_cut_error_is_none_of_the_others(self):
        for name in ALL:
            self.assertNotIsInstance(errors.CutError("some words"), class_of(name))

    def test_at_is_the_place(self):
        for name in WITH_PLACE:
            for number in NUMBERS:
                self.assertEqual(class_of(name)(number).at, number)

    def test_most_is_the_number(self):
        for number in NUMBERS:
            self.assertEqual(errors.TooMany(number).most, number)

    def test_each_object_has_its_own_field(self):
        one, other = errors.NotARoll(1), errors.NotARoll(2)
        self.assertEqual((one.at, other.at), (1, 2))
        few, many = errors.TooMany(1), errors.TooMany(2)
        self.assertEqual((few.most, many.most), (1, 2))

    def test_made_with_one_text(self):
        for name in WITH_TEXT + ("CutError",):
            for text in TEXTS:
                self.assertIs(type(class_of(name)(text)), class_of(name))

    def test_each_has_a_text(self):
        for name in ALL + ("CutError",):
            error = errors.CutError("some words") if name == "CutError" else made(name)
            self.assertIsInstance(str(error), str)
            self.assertIsInstance(repr(error), str)


if __name__ == "__main__":
    unittest.main()
