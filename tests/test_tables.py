import unittest
from itertools import product

from restform.errors import BadForm, BadTable
from restform.forms import Rests, form_of, value
from restform.tables import bar, table, told_by
from tests.samples import (
    ALL_MANY, MANY_WITH_ALL_FORMS, all_forms, bad_forms, bad_tables, drawer, falling_product, is_form, plain_at,
    plain_many_forms, plain_table, polynomials, some_forms,
)

PRIMES = [many for many in ALL_MANY if many > 1 and all(many % k for k in range(2, many))]


class Table(unittest.TestCase):
    def check(self, rests, form):
        told = table(rests, form)
        self.assertIs(type(told), list)
        self.assertTrue(all(type(rest) is int for rest in told))
        self.assertEqual(told, plain_table(rests.many, form))
        self.assertEqual(told, [value(rests, form, x) for x in range(rests.many)])
        self.assertEqual(told, [value(rests, form, x + rests.many) for x in range(rests.many)])

    def test_written_out(self):
        self.assertEqual(table(Rests(4), [0, 1, 1, 0]), [0, 1, 0, 1])
        self.assertEqual(table(Rests(6), [1, 5, 0]), [1, 0, 5, 4, 3, 2])
        self.assertEqual(table(Rests(2), [1, 1]), [1, 0])
        self.assertEqual(table(Rests(1), []), [0])

    def test_all_forms(self):
        for many in MANY_WITH_ALL_FORMS:
            rests = Rests(many)
            for form in all_forms(many):
                self.check(rests, form)

    def test_by_every_many(self):
        for many in ALL_MANY:
            rests = Rests(many)
            for form in some_forms(many, 10, 6):
                self.check(rests, form)

    def test_of_a_polynomials_form(self):
        for many in ALL_MANY:
            rests = Rests(many)
            for some in polynomials():
                told = table(rests, form_of(rests, some))
                self.assertEqual(told, [plain_at(some, x) % many for x in range(many)])

    def test_refused(self):
        for many in ALL_MANY:
            rests = Rests(many)
            for form in some_forms(many, 11, 1):
                for bad in bad_forms(many, form):
                    with self.assertRaises(BadForm):
                        table(rests, bad)


class OneOfBoth(unittest.TestCase):
    """Of each table told_by tells its form, or bar tells weights against it; never both."""

    @classmethod
    def setUpClass(cls):
        cls.falling = {many: [[falling_product(k, x) for x in range(many)] for k in range(many + 1)]
                       for many in ALL_MANY}

    def check_weights(self, many, told, some):
        self.assertIs(type(told), tuple)
        weights, divisor = told
        self.assertIs(type(weights), list)
        self.assertEqual(len(weights), many)
        self.assertTrue(all(type(weight) is int for weight in weights + [divisor]))
        self.assertGreaterEqual(divisor, 2)
        self.assertEqual(many % divisor, 0)
        # Every polynomial is a sum of falling products, and those of m and on are 0 at 0 to m - 1.
        for numbers in self.falling[many]:
            self.assertEqual(sum(weight * number for weight, number in zip(weights, numbers)) % divisor, 0)
        self.assertNotEqual(sum(weight * rest for weight, rest in zip(weights, some)) % divisor, 0)

    def check(self, rests, some):
        form, told = told_by(rests, some), bar(rests, some)
        if form is None:
            self.check_weights(rests.many, told, some)
        else:
            self.assertIsNone(told)
            self.assertTrue(is_form(rests.many, form), form)
            self.assertEqual(plain_table(rests.many, form), some)
        return form

    def test_written_out(self):
        self.assertEqual(told_by(Rests(4), [0, 1, 0, 1]), [0, 1, 1, 0])
        self.assertIsNone(bar(Rests(4), [0, 1, 0, 1]))
        self.assertIsNone(told_by(Rests(4), [0, 0, 1, 0]))
        self.check_weights(4, bar(Rests(4), [0, 0, 1, 0]), [0, 0, 1, 0])
        self.assertEqual(told_by(Rests(1), [0]), [])
        self.assertIsNone(bar(Rests(1), [0]))

    def test_the_table_of_each_form(self):
        for many in MANY_WITH_ALL_FORMS:
            rests = Rests(many)
            for form in all_forms(many):
                self.assertEqual(self.check(rests, plain_table(many, form)), form)
        for many in ALL_MANY:
            rests = Rests(many)
            for form in some_forms(many, 12, 8):
                self.assertEqual(self.check(rests, plain_table(many, form)), form)
                self.assertEqual(told_by(rests, table(rests, form)), form)

    def test_the_table_of_a_polynomial(self):
        for many in ALL_MANY:
            rests = Rests(many)
            for some in polynomials():
                self.assertEqual(told_by(rests, [plain_at(some, x) % many for x in range(many)]), form_of(rests, some))

    def test_every_table(self):
        for many in range(1, 7):
            rests = Rests(many)
            forms = 0
            for some in product(range(many), repeat=many):
                if self.check(rests, list(some)) is not None:
                    forms += 1
            self.assertEqual(forms, plain_many_forms(many))

    def test_every_table_by_a_prime_is_a_forms(self):
        for many in PRIMES:
            draw = drawer(many)
            for step in range(10):
                self.assertIsNotNone(self.check(Rests(many), [draw.randrange(many) for x in range(many)]))

    def test_drawn_tables(self):
        for many in ALL_MANY:
            draw = drawer(100 + many)
            for step in range(12):
                self.check(Rests(many), [draw.randrange(many) for x in range(many)])

    def test_one_rest_exchanged(self):
        for many in ALL_MANY:
            draw = drawer(200 + many)
            rests = Rests(many)
            for form in some_forms(many, 13, 2):
                some = plain_table(many, form)
                for x in range(many):
                    changed = list(some)
                    changed[x] = draw.randrange(many)
                    found = self.check(rests, changed)
                    if changed == some:
                        self.assertEqual(found, form)
                    else:
                        self.assertNotEqual(found, form)

    def test_one_rest_other_than_nought(self):
        for many in ALL_MANY:
            for x in range(many):
                for rest in {1 % many, many // 2, many - 1}:
                    self.check(Rests(many), [0] * x + [rest] + [0] * (many - 1 - x))


class Refused(unittest.TestCase):
    def tables(self, many):
        draw = drawer(300 + many)
        return [[0] * many, [many - 1] * many, [draw.randrange(many) for x in range(many)]]

    def test_by_told_by_and_bar(self):
        for many in ALL_MANY:
            rests = Rests(many)
            for some in self.tables(many):
                for bad in bad_tables(many, some):
                    with self.assertRaises(BadTable):
                        told_by(rests, bad)
                    with self.assertRaises(BadTable):
                        bar(rests, bad)

    def test_many_and_one_below_nought_written_out(self):
        for bad in ([0, 1, 4, 1], [0, 1, -1, 1], [0, 1, 0], [0, 1, 0, 1, 0], []):
            with self.assertRaises(BadTable):
                told_by(Rests(4), bad)
            with self.assertRaises(BadTable):
                bar(Rests(4), bad)
        for bad in ([], [0, 0], [1], [-1]):
            with self.assertRaises(BadTable):
                told_by(Rests(1), bad)
            with self.assertRaises(BadTable):
                bar(Rests(1), bad)


if __name__ == "__main__":
    unittest.main()
