import unittest
from math import gcd

from restform.errors import BadForm, Lone
from restform.forms import Rests, form_of, value
from restform.partners import lone, noughts, partner
from restform.reckon import multiplied
from tests.samples import (
    ALL_MANY, MANY_WITH_ALL_FORMS, PLACES, all_forms, bad_forms, coprime_forms, is_form, plain_form, plain_table,
    some_forms,
)


def plain_lone(many, told):
    """The least place with a common divisor above 1."""
    return min((x for x in range(many) if gcd(told[x], many) > 1), default=None)


class Partners(unittest.TestCase):
    def check_lone(self, rests, form):
        asked = plain_lone(rests.many, plain_table(rests.many, form))
        told = lone(rests, form)
        self.assertEqual(told, asked)
        if told is None:
            return True
        self.assertIs(type(told), int)
        with self.assertRaises(Lone) as taken:
            partner(rests, form)
        self.assertEqual(taken.exception.place, asked)
        self.assertIs(type(taken.exception.place), int)
        self.assertEqual(vars(taken.exception), {"place": asked})
        return False

    def check_partner(self, rests, form):
        many = rests.many
        told = partner(rests, form)
        self.assertTrue(is_form(many, told), told)
        left, right = plain_table(many, form), plain_table(many, told)
        self.assertEqual([left[x] * right[x] % many for x in range(many)], [1 % many] * many)
        one = form_of(rests, [1])
        self.assertEqual(multiplied(rests, form, told), one)
        self.assertEqual(multiplied(rests, told, form), one)
        self.assertEqual(partner(rests, told), form)
        self.assertIsNone(lone(rests, told))
        for x in PLACES:
            self.assertEqual(value(rests, form, x) * value(rests, told, x) % many, 1 % many)

    def check_noughts(self, rests, form):
        told = noughts(rests, form)
        left = plain_table(rests.many, form)
        self.assertIs(type(told), list)
        self.assertTrue(all(type(place) is int for place in told))
        self.assertEqual(told, [x for x in range(rests.many) if left[x] == 0])

    def check(self, rests, form):
        self.check_noughts(rests, form)
        has_one = self.check_lone(rests, form)
        if has_one:
            self.check_partner(rests, form)
        return has_one

    def test_all_forms(self):
        for many in MANY_WITH_ALL_FORMS + (9,):
            rests = Rests(many)
            found = [self.check(rests, form) for form in all_forms(many)]
            self.assertIn(True, found)
            self.assertEqual(False in found, many > 1)

    def test_drawn_forms_by_every_many(self):
        for many in ALL_MANY:
            rests = Rests(many)
            found = [self.check(rests, form) for form in coprime_forms(many, 60, 4) + some_forms(many, 60, 8)]
            self.assertGreaterEqual(found.count(True), 4)
            self.assertEqual(False in found, many > 1)

    def test_more_drawn_forms(self):
        for many in (60, 48, 36, 30, 16):
            rests = Rests(many)
            for form in coprime_forms(many, 61, 20) + some_forms(many, 61, 40):
                self.check(rests, form)

    def test_written_out(self):
        four = Rests(4)
        self.assertEqual(lone(four, [1, 1, 0, 0]), 1)
        self.assertIsNone(lone(four, [1, 2, 0, 0]))
        self.assertEqual(partner(four, [1, 2, 0, 0]), [1, 2, 0, 0])
        self.assertEqual(noughts(four, [1, 1, 0, 0]), [3])
        self.assertEqual(noughts(four, [0, 1, 1, 0]), [0, 2])
        five = Rests(5)
        self.assertEqual(partner(five, form_of(five, [2])), form_of(five, [3]))
        self.assertEqual(lone(five, form_of(five, [1, 1])), 4)
        six = Rests(6)
        self.assertEqual(lone(six, form_of(six, [1, 2])), 1)
        self.assertEqual(lone(six, form_of(six, [1, 1])), 1)
        self.assertEqual(noughts(six, form_of(six, [0, 1, 1])), [0, 2, 3, 5])

    def test_by_one(self):
        one = Rests(1)
        self.assertIsNone(lone(one, []))
        self.assertEqual(partner(one, []), [])
        self.assertEqual(noughts(one, []), [0])

    def test_the_same_rest_everywhere(self):
        for many in ALL_MANY:
            rests = Rests(many)
            for count in range(many):
                form = form_of(rests, [count])
                self.check(rests, form)
                self.assertEqual(lone(rests, form), 0 if gcd(count, many) > 1 else None)
                self.assertEqual(noughts(rests, form), list(range(many)) if count == 0 else [])

    def test_lone_at_the_last_place_alone(self):
        for prime in (2, 3, 5, 7, 11, 13, 59):
            rests = Rests(prime)
            for place in (0, prime // 2, prime - 1):
                told = [1] * prime
                told[place] = 0
                form = plain_form(prime, told)
                self.assertEqual(lone(rests, form), place)
                self.assertEqual(noughts(rests, form), [place])
                self.check(rests, form)

    def test_common_divisors_without_a_nought(self):
        for many, counts in ((4, [2]), (6, [2, 3, 4]), (60, [2, 3, 5, 58]), (49, [7, 42]), (35, [5, 7, 14])):
            rests = Rests(many)
            for count in counts:
                # 1 at 0 and the count at 1.
                form = form_of(rests, [1, count - 1])
                self.assertEqual(value(rests, form, 1), count)
                self.assertEqual(lone(rests, form), 1)
                self.check(rests, form)
                self.assertEqual(noughts(rests, form_of(rests, [count])), [])

    def test_no_form_is_refused_first(self):
        for many in (1, 2, 4, 6, 9, 12, 16, 30, 36, 48, 59, 60):
            rests = Rests(many)
            # The form of noughts would be refused with Lone, that of 1 would not.
            for form in (form_of(rests, []), form_of(rests, [1])):
                for bad in bad_forms(many, form):
                    for act in (lone, partner, noughts):
                        with self.assertRaises(BadForm):
                            act(rests, bad)


if __name__ == "__main__":
    unittest.main()
