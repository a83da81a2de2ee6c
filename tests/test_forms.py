import unittest
from itertools import product
from math import factorial, gcd

from restform.errors import BadForm, BadRest
from restform.falling import at_falls, unfolded
from restform.forms import Rests, form_of, parting, value
from restform.polys import at, plus, put_in, times
from tests.samples import (
    ALL_MANY, MANY_WITH_ALL_FORMS, OTHER_SIXTY, OTHER_TWELVE, PLACES, SIXTY, TWELVE, all_forms, bad_forms, drawer,
    drawn_polynomial, figures, is_form, plain_at, plain_rest, plain_tops, polynomials, some_forms,
)

MANY_TOPS = (60, 59, 53, 48, 36, 30, 16, 7, 4, 2, 1)


def least_parting(many, one, other):
    for x in range(many):
        if (plain_at(one, x) - plain_at(other, x)) % many:
            return x
    return None


class RestsMade(unittest.TestCase):
    def test_written_out(self):
        for many, tops in (
            (1, []), (2, [2, 2]), (3, [3, 3, 3]), (4, [4, 4, 2, 2]), (6, [6, 6, 3]), (8, [8, 8, 4, 4]),
            (9, [9, 9, 9, 3, 3, 3]), (12, [12, 12, 6, 2]), (16, [16, 16, 8, 8, 2, 2]), (59, [59] * 59),
            (60, [60, 60, 30, 10, 5]),
        ):
            self.assertEqual(Rests(many).tops, tops)

    def test_as_defined(self):
        for many in ALL_MANY:
            tops = Rests(many).tops
            self.assertIs(type(tops), list)
            self.assertTrue(all(type(top) is int for top in tops))
            self.assertTrue(all(top > 1 for top in tops))
            for k in range(70):
                self.assertEqual((tops + [1] * 70)[k], many // gcd(many, factorial(k)))

    def test_many(self):
        for many in ALL_MANY:
            rests = Rests(many)
            self.assertEqual(rests.many, many)
            self.assertIs(type(rests.many), int)

    def test_each_object_has_its_own_fields(self):
        four, six, again = Rests(4), Rests(6), Rests(4)
        self.assertIsNot(four.tops, again.tops)
        self.assertEqual((four.many, four.tops), (4, [4, 4, 2, 2]))
        self.assertEqual((six.many, six.tops), (6, [6, 6, 3]))

    def test_refused(self):
        for many in (0, -1, -2, -60, -61, 61, 62, 120, 3600, SIXTY, -SIXTY, 10 ** 59, -10 ** 59, OTHER_SIXTY):
            with self.assertRaises(BadRest):
                Rests(many)

    def test_refused_changes_nothing(self):
        for many in (0, 61):
            with self.assertRaises(BadRest):
                Rests(many)
            self.assertEqual(Rests(1).tops, [])
            self.assertEqual(Rests(60).tops, [60, 60, 30, 10, 5])


class FormOf(unittest.TestCase):
    def check(self, rests, some, places):
        form = form_of(rests, some)
        self.assertTrue(is_form(rests.many, form), form)
        for x in places:
            self.assertEqual(plain_rest(rests.many, form, x), plain_at(some, x) % rests.many)
        return form

    def test_written_out(self):
        self.assertEqual(form_of(Rests(4), [0, 0, 1]), [0, 1, 1, 0])
        self.assertEqual(form_of(Rests(2), [0, 0, 1]), [0, 1])
        self.assertEqual(form_of(Rests(2), [0, 1]), [0, 1])
        self.assertEqual(form_of(Rests(4), [-1, -1, -1, -1]), [3, 1, 0, 1])
        self.assertEqual(form_of(Rests(6), [7, -1, 3]), [1, 2, 0])
        self.assertEqual(form_of(Rests(1), [5, 6, 7]), [])

    def test_same_rests_by_every_many(self):
        for many in ALL_MANY:
            rests = Rests(many)
            for some in polynomials():
                self.check(rests, some, list(range(many)) + PLACES)

    def test_drawn_polynomials(self):
        draw = drawer(8)
        for many in ALL_MANY:
            rests = Rests(many)
            for step in range(10):
                self.check(rests, drawn_polynomial(draw), list(range(many)) + PLACES)

    def test_empty_list(self):
        for many in ALL_MANY:
            for empty in ([], [0], [0, 0, 0], [0] * 12, [many], [0, -many], [many * SIXTY] * 12):
                self.assertEqual(form_of(Rests(many), empty), [0] * len(plain_tops(many)))

    def test_noughts_at_the_end(self):
        for many in MANY_TOPS:
            rests = Rests(many)
            for some in polynomials():
                self.assertEqual(form_of(rests, some + [0]), form_of(rests, some))
                self.assertEqual(form_of(rests, some + [0, 0, 0]), form_of(rests, some))

    def test_many_times_a_polynomial_more(self):
        for many in ALL_MANY:
            rests = Rests(many)
            for some in polynomials():
                for other in ([1], [0, -1], [SIXTY], TWELVE, OTHER_TWELVE):
                    self.assertEqual(form_of(rests, plus(some, times([many], other))), form_of(rests, some))

    def test_a_falling_product_its_tops_times_more(self):
        for many in ALL_MANY:
            rests = Rests(many)
            tops = plain_tops(many) + [1, 1]
            for k, top in enumerate(tops):
                for some in ([], [0, 1], TWELVE):
                    for count in (top, -top, top * SIXTY):
                        like = plus(some, unfolded([0] * k + [count]))
                        self.assertEqual(form_of(rests, like), form_of(rests, some))

    def test_a_falling_product_less_than_its_tops_times_more(self):
        for many in ALL_MANY:
            rests = Rests(many)
            for k, top in enumerate(plain_tops(many)):
                for some in ([], [0, 1], TWELVE):
                    for count in {1, -1, top - 1, top // 2, top + 1}:
                        unlike = plus(some, unfolded([0] * k + [count]))
                        self.assertNotEqual(form_of(rests, unlike), form_of(rests, some))
                        self.assertIsNotNone(least_parting(many, unlike, some))

    def test_one_form_just_where_the_rests_are_alike(self):
        for many, size in ((1, 4), (2, 6), (3, 5), (4, 5), (5, 4), (6, 4), (8, 3), (9, 3)):
            rests = Rests(many)
            form_by_rests, rests_by_form = {}, {}
            for some in product(range(many), repeat=size):
                left = tuple(plain_at(some, x) % many for x in range(many))
                form = tuple(form_of(rests, list(some)))
                self.assertEqual(form_by_rests.setdefault(left, form), form)
                self.assertEqual(rests_by_form.setdefault(form, left), left)

    def test_each_form_is_its_own(self):
        for many in MANY_WITH_ALL_FORMS:
            rests = Rests(many)
            for form in all_forms(many):
                self.assertEqual(form_of(rests, unfolded(form)), form)
        for many in ALL_MANY:
            rests = Rests(many)
            for form in some_forms(many, 1, 5):
                self.assertEqual(form_of(rests, unfolded(form)), form)

    def test_told_handed_in_again(self):
        long = times(times(times(TWELVE, OTHER_TWELVE), times(OTHER_TWELVE, TWELVE)), times(TWELVE, OTHER_TWELVE[:9]))
        self.assertEqual(len(long), 64)
        great = at_falls(figures(60, 7), SIXTY)
        self.assertGreater(abs(great), 10 ** 3000)
        for many in MANY_TOPS:
            rests = Rests(many)
            self.check(rests, long, list(range(many)) + PLACES)
            self.check(rests, put_in(TWELVE, OTHER_TWELVE), range(many))
            self.check(rests, [great, -great, great], range(many))


class Value(unittest.TestCase):
    def check(self, rests, form, x):
        number = value(rests, form, x)
        self.assertIs(type(number), int)
        self.assertTrue(0 <= number < rests.many)
        self.assertEqual(number, plain_rest(rests.many, form, x))

    def test_written_out(self):
        self.assertEqual(value(Rests(4), [0, 1, 1, 0], 3), 1)
        self.assertEqual(value(Rests(4), [3, 3, 1, 1], 2), 3)
        self.assertEqual(value(Rests(6), [5, 5, 2], -1), 4)
        self.assertEqual(value(Rests(60), [59, 0, 0, 0, 0], SIXTY), 59)
        self.assertEqual(value(Rests(1), [], 5), 0)

    def test_all_forms(self):
        for many in MANY_WITH_ALL_FORMS:
            rests = Rests(many)
            for form in all_forms(many):
                for x in range(many):
                    self.check(rests, form, x)

    def test_by_every_many(self):
        for many in ALL_MANY:
            rests = Rests(many)
            for form in some_forms(many, 2, 4):
                for x in list(range(many)) + [many, many + 1, -many, 2 * many - 1] + PLACES:
                    self.check(rests, form, x)

    def test_of_a_polynomials_form(self):
        for many in MANY_TOPS:
            rests = Rests(many)
            for some in polynomials():
                form = form_of(rests, some)
                for x in PLACES:
                    self.assertEqual(value(rests, form, x), at(some, x) % many)

    def test_at_a_told_number(self):
        great = at(TWELVE + OTHER_TWELVE, SIXTY)
        self.assertGreater(abs(great), 10 ** 1300)
        for many in MANY_TOPS:
            for form in some_forms(many, 3, 1):
                self.check(Rests(many), form, great)
                self.check(Rests(many), form, -great)

    def test_refused(self):
        for many in MANY_TOPS:
            rests = Rests(many)
            for form in some_forms(many, 4, 1):
                for bad in bad_forms(many, form):
                    for x in (0, -1, SIXTY):
                        with self.assertRaises(BadForm):
                            value(rests, bad, x)


class Parting(unittest.TestCase):
    def check(self, rests, one, other):
        place = least_parting(rests.many, one, other)
        for told in (parting(rests, one, other), parting(rests, other, one)):
            self.assertEqual(told, place)
            self.assertIn(type(told), (int, type(None)))
        return place

    def test_written_out(self):
        self.assertIsNone(parting(Rests(2), [0, 0, 1], [0, 1]))
        self.assertEqual(parting(Rests(3), [0, 0, 1], [0, 1]), 2)
        self.assertEqual(parting(Rests(4), [1], [3]), 0)
        self.assertEqual(parting(Rests(4), [1, 1], [1, 3]), 1)
        self.assertIsNone(parting(Rests(1), [1], [0, 7]))

    def test_all_rests_alike(self):
        for many in ALL_MANY:
            rests = Rests(many)
            for some in polynomials():
                for like in (list(some), some + [0, 0], plus(some, times([many], OTHER_TWELVE))):
                    self.assertIsNone(self.check(rests, some, like))
            for k, top in enumerate(plain_tops(many) + [1]):
                self.assertIsNone(self.check(rests, TWELVE, plus(TWELVE, unfolded([0] * k + [-top]))))

    def test_at_nought(self):
        for many in ALL_MANY[1:]:
            rests = Rests(many)
            for some in polynomials():
                self.assertEqual(self.check(rests, some, plus(some, [1])), 0)
                self.assertEqual(self.check(rests, some, plus(some, [-1, 5, SIXTY])), 0)

    def test_at_each_place(self):
        for many in ALL_MANY:
            rests = Rests(many)
            for k, top in enumerate(plain_tops(many)):
                for count in {1, top - 1}:
                    unlike = plus(TWELVE, unfolded([0] * k + [count]))
                    self.assertEqual(self.check(rests, TWELVE, unlike), k)
        self.assertEqual(parting(Rests(59), [], unfolded([0] * 58 + [1])), 58)
        self.assertEqual(parting(Rests(60), [], unfolded([0] * 4 + [1])), 4)

    def test_least_of_several(self):
        for many in MANY_TOPS:
            rests = Rests(many)
            for one in polynomials():
                for other in polynomials():
                    self.check(rests, one, other)

    def test_drawn(self):
        draw = drawer(9)
        for many in ALL_MANY:
            for step in range(20):
                self.check(Rests(many), drawn_polynomial(draw), drawn_polynomial(draw))


if __name__ == "__main__":
    unittest.main()
