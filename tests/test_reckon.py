import unittest

from restform.errors import BadForm, NoForm
from restform.forms import Rests, form_of, value
from restform.polys import plus, put_in, times
from restform.reckon import added, form_at, many_forms, multiplied, number_of, put
from tests.samples import (
    ALL_MANY, MANY_WITH_ALL_FORMS, PLACES, SIXTY, all_forms, bad_forms, drawer, drawn_polynomial, is_form,
    plain_many_forms, plain_table, plain_tops, polynomials, some_forms,
)

SMALL = (1, 2, 3, 4, 6)  # those by which all pairs of forms can be walked
OF_TWO = [added, multiplied, put]
OF_POLYNOMIALS = [(added, plus), (multiplied, times), (put, put_in)]


class OfTwoForms(unittest.TestCase):
    def check(self, rests, one, other):
        many = rests.many
        left, right = plain_table(many, one), plain_table(many, other)
        for act, rests_asked in (
            (added, [(left[x] + right[x]) % many for x in range(many)]),
            (multiplied, [left[x] * right[x] % many for x in range(many)]),
            (put, [left[right[x]] for x in range(many)]),
        ):
            told = act(rests, one, other)
            self.assertTrue(is_form(many, told), told)
            self.assertEqual(plain_table(many, told), rests_asked)

    def test_written_out(self):
        four = Rests(4)
        self.assertEqual(added(four, [3, 2, 1, 1], [2, 3, 1, 0]), [1, 1, 0, 1])
        self.assertEqual(multiplied(four, [0, 1, 0, 0], [0, 1, 0, 0]), [0, 1, 1, 0])
        self.assertEqual(put(four, [1, 1, 0, 0], [0, 1, 1, 0]), [1, 1, 1, 0])
        self.assertEqual(put(four, [0, 1, 1, 0], [1, 1, 0, 0]), [1, 3, 1, 0])
        for act in OF_TWO:
            self.assertEqual(act(Rests(1), [], []), [])

    def test_all_pairs(self):
        for many in SMALL:
            rests = Rests(many)
            for one in all_forms(many):
                for other in all_forms(many):
                    self.check(rests, one, other)

    def test_by_every_many(self):
        for many in ALL_MANY:
            rests = Rests(many)
            for one in some_forms(many, 20, 3):
                for other in some_forms(many, 21, 3):
                    self.check(rests, one, other)

    def test_a_form_with_itself(self):
        for many in ALL_MANY:
            rests = Rests(many)
            for form in some_forms(many, 22, 3):
                self.check(rests, form, form)

    def test_at_numbers_of_sixty_figures(self):
        for many in ALL_MANY:
            rests = Rests(many)
            one, other = some_forms(many, 23, 2)[2:]
            for x in PLACES:
                left, right = value(rests, one, x), value(rests, other, x)
                self.assertEqual(value(rests, added(rests, one, other), x), (left + right) % many)
                self.assertEqual(value(rests, multiplied(rests, one, other), x), left * right % many)
                self.assertEqual(value(rests, put(rests, one, other), x), value(rests, one, right))

    def test_nought_one_and_x(self):
        for many in ALL_MANY:
            rests = Rests(many)
            nought, one, x = form_of(rests, []), form_of(rests, [1]), form_of(rests, [0, 1])
            for form in some_forms(many, 24, 4) + [nought, one, x]:
                at_nought = form_of(rests, [plain_table(many, form)[0]])
                at_one = form_of(rests, [plain_table(many, form)[1 % many]])
                for act, left, right, told in (
                    (added, nought, form, form), (added, form, nought, form),
                    (multiplied, nought, form, nought), (multiplied, form, nought, nought),
                    (multiplied, one, form, form), (multiplied, form, one, form),
                    (put, x, form, form), (put, form, x, form),
                    (put, nought, form, nought), (put, form, nought, at_nought),
                    (put, one, form, one), (put, form, one, at_one),
                ):
                    self.assertEqual(act(rests, left, right), told)
                for other in (one, x):
                    self.check(rests, form, other)
                    self.check(rests, other, form)

    def test_alike_to_the_polynomials(self):
        for many in (1, 2, 7, 16, 30, 36, 48, 59, 60):
            rests = Rests(many)
            for one in polynomials()[::2]:
                for other in polynomials()[::3]:
                    for act, plain in OF_POLYNOMIALS:
                        told = act(rests, form_of(rests, one), form_of(rests, other))
                        self.assertEqual(told, form_of(rests, plain(one, other)))

    def test_alike_to_drawn_polynomials(self):
        draw = drawer(25)
        for many in ALL_MANY:
            rests = Rests(many)
            one, other = drawn_polynomial(draw), drawn_polynomial(draw)
            for act, plain in OF_POLYNOMIALS:
                told = act(rests, form_of(rests, one), form_of(rests, other))
                self.assertEqual(told, form_of(rests, plain(one, other)))

    def test_refused(self):
        for many in (1, 2, 4, 6, 16, 36, 59, 60):
            rests = Rests(many)
            for form in some_forms(many, 26, 0):
                for bad in bad_forms(many, form):
                    for act in OF_TWO:
                        for one, other in ((bad, form), (form, bad), (bad, list(bad)), (bad, bad)):
                            with self.assertRaises(BadForm):
                                act(rests, one, other)


class ManyForms(unittest.TestCase):
    def test_written_out(self):
        for many, count in ((1, 1), (2, 4), (3, 27), (4, 64), (6, 108), (59, 59 ** 59), (60, 5400000)):
            self.assertEqual(many_forms(Rests(many)), count)

    def test_as_defined(self):
        for many in ALL_MANY:
            count = many_forms(Rests(many))
            self.assertIs(type(count), int)
            self.assertEqual(count, plain_many_forms(many))


class Numbers(unittest.TestCase):
    def plain_number(self, many, form):
        total = 0
        for k, count in enumerate(form):
            product = 1
            for top in plain_tops(many)[:k]:
                product *= top
            total += count * product
        return total

    def check(self, rests, form):
        number = number_of(rests, form)
        self.assertIs(type(number), int)
        self.assertEqual(number, self.plain_number(rests.many, form))
        again = form_at(rests, number)
        self.assertTrue(is_form(rests.many, again))
        self.assertEqual(again, form)

    def test_written_out(self):
        four = Rests(4)
        self.assertEqual(number_of(four, [0, 0, 0, 0]), 0)
        self.assertEqual(number_of(four, [1, 0, 0, 0]), 1)
        self.assertEqual(number_of(four, [3, 2, 1, 1]), 3 + 2 * 4 + 16 + 32)
        self.assertEqual(form_at(four, 6), [2, 1, 0, 0])
        self.assertEqual(form_at(four, 63), [3, 3, 1, 1])
        self.assertEqual(number_of(Rests(1), []), 0)
        self.assertEqual(form_at(Rests(1), 0), [])

    def test_all_numbers(self):
        for many in MANY_WITH_ALL_FORMS:
            rests = Rests(many)
            told = [form_at(rests, number) for number in range(plain_many_forms(many))]
            self.assertEqual(sorted(told), sorted(all_forms(many)))
            for number, form in enumerate(told):
                self.assertEqual(number_of(rests, form), number)
                self.check(rests, form)

    def test_by_every_many(self):
        for many in ALL_MANY:
            rests = Rests(many)
            draw = drawer(400 + many)
            last = plain_many_forms(many) - 1
            self.assertEqual(form_at(rests, 0), [0] * len(plain_tops(many)))
            self.assertEqual(form_at(rests, last), [top - 1 for top in plain_tops(many)])
            for number in [0, last, last // 2] + [draw.randrange(last + 1) for step in range(20)]:
                form = form_at(rests, number)
                self.assertTrue(is_form(many, form))
                self.assertEqual(number_of(rests, form), number)
            for form in some_forms(many, 27, 10):
                self.check(rests, form)

    def test_number_of_refuses(self):
        for many in ALL_MANY:
            rests = Rests(many)
            for form in some_forms(many, 28, 1):
                for bad in bad_forms(many, form):
                    with self.assertRaises(BadForm):
                        number_of(rests, bad)

    def test_form_at_refuses(self):
        for many in ALL_MANY:
            rests = Rests(many)
            count = plain_many_forms(many)
            beyond = [-1, -2, -count, count, count + 1, 2 * count, count * count, -SIXTY, -10 ** 119, -10 ** 120,
                      10 ** 119, 10 ** 120 - 1, 10 ** 120]
            for number in beyond:
                with self.assertRaises(NoForm):
                    form_at(rests, number)
            for number in (SIXTY, 10 ** 60):
                if number >= count:
                    with self.assertRaises(NoForm):
                        form_at(rests, number)


if __name__ == "__main__":
    unittest.main()
