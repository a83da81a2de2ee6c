import unittest

from restform import errors
from restform.errors import (
    BadForm, BadRest, BadTable, Lone, Meets, NoForm, NoText, RestError, TooGreat,
)

PLAIN = [BadRest, BadForm, BadTable, NoForm, TooGreat, NoText]
ALL = PLAIN + [Meets, Lone]


class Classes(unittest.TestCase):
    def test_rest_error_straight_beneath_value_error(self):
        self.assertEqual(RestError.__bases__, (ValueError,))

    def test_each_straight_beneath_rest_error(self):
        for kind in ALL:
            with self.subTest(kind.__name__):
                self.assertEqual(kind.__bases__, (RestError,))

    def test_none_beneath_another_one(self):
        for kind in ALL:
            for other in ALL:
                if kind is not other:
                    with self.subTest(kind=kind.__name__, other=other.__name__):
                        self.assertFalse(issubclass(kind, other))

    def test_each_has_its_own_name(self):
        self.assertEqual(len(set(ALL)), 8)
        for name in ("RestError", "BadRest", "BadForm", "BadTable", "NoForm", "TooGreat", "NoText", "Meets", "Lone"):
            self.assertEqual(getattr(errors, name).__name__, name)


class Fields(unittest.TestCase):
    def test_without_fields(self):
        for kind in PLAIN + [RestError]:
            with self.subTest(kind.__name__):
                self.assertEqual(vars(kind()), {})
                self.assertEqual(vars(kind("words")), {})
                for field in ("one", "other", "place"):
                    self.assertFalse(hasattr(kind(), field))

    def test_meets(self):
        refusal = Meets(3, 8)
        self.assertEqual((refusal.one, refusal.other), (3, 8))
        self.assertEqual(vars(refusal), {"one": 3, "other": 8})

    def test_lone(self):
        refusal = Lone(5)
        self.assertEqual(refusal.place, 5)
        self.assertEqual(vars(refusal), {"place": 5})

    def test_fields_belong_to_each_object(self):
        first, second = Meets(0, 1), Meets(2, 3)
        self.assertEqual((first.one, first.other, second.one, second.other), (0, 1, 2, 3))
        first, second = Lone(0), Lone(4)
        self.assertEqual((first.place, second.place), (0, 4))

    def test_taken_as_rest_error(self):
        for refusal in [kind() for kind in PLAIN] + [Meets(0, 1), Lone(0)]:
            with self.assertRaises(RestError):
                raise refusal
            with self.assertRaises(ValueError):
                raise refusal


if __name__ == "__main__":
    unittest.main()
