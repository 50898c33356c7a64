import unittest

from friezeyard import errors
from friezeyard.errors import Crossed, Fallen, FloorError, NotFull

NAMES = ["NoFloor", "NoLine", "Crossed", "NotFull", "NoText", "NoCorner", "NoEar", "NoRow", "Fallen", "NoBand",
         "TooMany", "NoQuotient", "NotAlike", "NoPlace", "NoDeed", "NoName", "NoTurn"]
WITH_FIELDS = {"Crossed": ((0, 2), (1, 3)), "NotFull": ((0, 2),), "Fallen": (5,)}


class ErrorsTest(unittest.TestCase):
    def test_floor_error_is_a_value_error(self):
        self.assertEqual(FloorError.__bases__, (ValueError,))
        with self.assertRaises(ValueError):
            raise FloorError("words")

    def test_there_are_seventeen_straight_under_floor_error(self):
        self.assertEqual(len(NAMES), 17)
        for name in NAMES:
            self.assertEqual(getattr(errors, name).__bases__, (FloorError,), name)

    def test_none_stands_under_another(self):
        for name in NAMES:
            for other in NAMES:
                under = issubclass(getattr(errors, name), getattr(errors, other))
                self.assertEqual(under, name == other, (name, other))

    def test_raised_they_are_taken_under_all_their_names(self):
        for name in NAMES:
            made = getattr(errors, name)
            for taken in (made, FloorError, ValueError):
                with self.assertRaises(taken):
                    raise made(*WITH_FIELDS.get(name, ()))

    def test_those_without_fields_are_made_of_words_or_of_nothing(self):
        for name in ["FloorError"] + NAMES:
            if name not in WITH_FIELDS:
                made = getattr(errors, name)
                self.assertIsInstance(made(), made)
                self.assertEqual(str(made("some words")), "some words")

    def test_crossed_bears_one_and_other(self):
        self.assertEqual((Crossed((0, 2), (1, 3)).one, Crossed((0, 2), (1, 3)).other), ((0, 2), (1, 3)))
        named = Crossed(other=(1, 3), one=(0, 2))
        self.assertEqual((named.one, named.other), ((0, 2), (1, 3)))

    def test_not_full_bears_line(self):
        self.assertEqual(NotFull((1, 4)).line, (1, 4))
        self.assertEqual(NotFull(line=(1, 4)).line, (1, 4))

    def test_fallen_bears_corner(self):
        self.assertEqual(Fallen(0).corner, 0)
        self.assertEqual(Fallen(corner=59).corner, 59)

    def test_fields_are_there_when_it_is_taken(self):
        try:
            raise Crossed((0, 3), (2, 5))
        except FloorError as taken:
            self.assertEqual((taken.one, taken.other), ((0, 3), (2, 5)))

    def test_those_with_fields_need_them(self):
        for name, fields in WITH_FIELDS.items():
            made = getattr(errors, name)
            self.assertRaises(TypeError, made)
            self.assertRaises(TypeError, made, *fields, "more")

    def test_fields_belong_to_each_object(self):
        first, second = NotFull((0, 2)), NotFull((1, 3))
        self.assertEqual((first.line, second.line), ((0, 2), (1, 3)))
        self.assertFalse(hasattr(NotFull, "line"))


if __name__ == "__main__":
    unittest.main()
