"""Nothing that is handed in is changed, and a told list is the asker's own."""

import unittest

from restform.falling import at_falls, falls, unfolded
from restform.polys import at, plus, put_in, times
from tests.samples import falls_lists, figures, polynomials, spoil

OF_ONE = [falls, unfolded]
OF_TWO = [plus, times, put_in]
AT_A_PLACE = [at, at_falls]


def pairs():
    return [(one, other) for one in polynomials() for other in polynomials()]


class HandedIn(unittest.TestCase):
    def test_of_one(self):
        for act in OF_ONE:
            for some in falls_lists():
                handed = list(some)
                told = act(handed)
                self.assertEqual(handed, some)
                self.assertIsNot(told, handed)

    def test_of_two(self):
        for act in OF_TWO:
            for one, other in pairs():
                left, right = list(one), list(other)
                told = act(left, right)
                self.assertEqual((left, right), (one, other))
                self.assertIsNot(told, left)
                self.assertIsNot(told, right)

    def test_one_list_handed_in_twice(self):
        for act in OF_TWO:
            for some in polynomials():
                handed = list(some)
                told = act(handed, handed)
                self.assertEqual(handed, some)
                self.assertIsNot(told, handed)
                self.assertEqual(told, act(list(some), list(some)))

    def test_at_a_place(self):
        for act in AT_A_PLACE:
            for some in falls_lists():
                handed = list(some)
                act(handed, 3)
                act(handed, -3)
                self.assertEqual(handed, some)


class Told(unittest.TestCase):
    def test_of_one(self):
        for act in OF_ONE:
            for some in falls_lists():
                handed = list(some)
                told = act(handed)
                kept = list(told)
                spoil(told)
                self.assertEqual(handed, some)
                self.assertEqual(act(handed), kept)
                self.assertEqual(act(list(some)), kept)

    def test_of_two(self):
        for act in OF_TWO:
            for one, other in pairs():
                left, right = list(one), list(other)
                told = act(left, right)
                kept = list(told)
                spoil(told)
                self.assertEqual((left, right), (one, other))
                self.assertEqual(act(left, right), kept)
                self.assertEqual(act(list(one), list(other)), kept)

    def test_one_list_handed_in_twice(self):
        for act in OF_TWO:
            for some in polynomials():
                handed = list(some)
                told = act(handed, handed)
                kept = list(told)
                spoil(told)
                self.assertEqual(handed, some)
                self.assertEqual(act(handed, handed), kept)

    def test_each_call_tells_a_list_of_its_own(self):
        for act in OF_ONE:
            for some in ([], [0], [1], [0, 1], figures(12, 7)):
                self.assertIsNot(act(some), act(some))
        for act in OF_TWO:
            for one, other in pairs():
                self.assertIsNot(act(one, other), act(one, other))

    def test_told_list_handed_in_again(self):
        for act in OF_TWO:
            told = act([1, 2, 3], [4, 5])
            kept = list(told)
            again = plus(told, [])
            spoil(again)
            self.assertEqual(told, kept)
            again = times([1], told)
            spoil(again)
            self.assertEqual(told, kept)
            again = put_in(told, [0, 1])
            spoil(again)
            self.assertEqual(told, kept)


class ChangedBehindTheCall(unittest.TestCase):
    def test_what_was_told_stays(self):
        for act in OF_ONE:
            for some in falls_lists():
                handed = list(some)
                told = act(handed)
                kept = list(told)
                spoil(handed)
                self.assertEqual(told, kept)
        for act in OF_TWO:
            for one, other in pairs():
                left, right = list(one), list(other)
                told = act(left, right)
                kept = list(told)
                spoil(left)
                spoil(right)
                self.assertEqual(told, kept)

    def test_the_changed_list_is_read_anew(self):
        for act in OF_ONE:
            handed = [1, 2, 3]
            act(handed)
            spoil(handed)
            self.assertEqual(act(handed), act([78, 1001, 1002, 1003, 77]))
        for act in OF_TWO:
            left, right = [1, 2], [3, 4]
            act(left, right)
            left.append(5)
            right[0] = 9
            self.assertEqual(act(left, right), act([1, 2, 5], [9, 4]))
        for act in AT_A_PLACE:
            handed = [1, 2, 3]
            self.assertNotEqual(act(handed, 5), 1)
            handed[1:] = []
            self.assertEqual(act(handed, 5), 1)


if __name__ == "__main__":
    unittest.main()
