import unittest

from restform.polys import at, plus, put_in, times
from tests.samples import (
    OTHER_SIXTY, OTHER_TWELVE, PLACES, SIXTY, TWELVE, is_told_list, plain_at, polynomials, without_end,
)


class At(unittest.TestCase):
    def test_written_out(self):
        self.assertEqual(at([1, 0, 2], 3), 19)
        self.assertEqual(at([1, 0, 2], -3), 19)
        self.assertEqual(at([4, 3, 2, 1], 10), 1234)
        self.assertEqual(at([4, 3, 2, 1], -10), -826)
        self.assertEqual(at([-7], 5), -7)

    def test_at_nought_is_the_first_number(self):
        self.assertEqual(at([9, 8, 7], 0), 9)
        self.assertEqual(at([0, 8, 7], 0), 0)
        self.assertEqual(at([-SIXTY, 1], 0), -SIXTY)

    def test_empty_list_is_nought_everywhere(self):
        for x in PLACES:
            number = at([], x)
            self.assertEqual(number, 0)
            self.assertIs(type(number), int)

    def test_noughts_at_the_end_change_nothing(self):
        for some in polynomials():
            for x in PLACES:
                self.assertEqual(at(some + [0], x), at(some, x))
                self.assertEqual(at(some + [0, 0, 0], x), at(some, x))

    def test_sixty_figures(self):
        self.assertEqual(at([0, 1], SIXTY), SIXTY)
        self.assertEqual(at([SIXTY, SIXTY], -SIXTY), SIXTY - SIXTY * SIXTY)
        self.assertEqual(at([0] * 11 + [1], OTHER_SIXTY), OTHER_SIXTY ** 11)
        self.assertEqual(at([0] * 11 + [-SIXTY], -OTHER_SIXTY), SIXTY * OTHER_SIXTY ** 11)

    def test_as_defined(self):
        for some in polynomials():
            for x in PLACES:
                number = at(some, x)
                self.assertEqual(number, plain_at(some, x))
                self.assertIs(type(number), int)


class Plus(unittest.TestCase):
    def test_written_out(self):
        self.assertEqual(plus([1, 2], [3, 4]), [4, 6])
        self.assertEqual(plus([1], [0, 0, 5]), [1, 0, 5])
        self.assertEqual(plus([0, 0, 5], [1]), [1, 0, 5])
        self.assertEqual(plus([-1, 2, 3], [1, 1]), [0, 3, 3])

    def test_last_numbers_cancel(self):
        self.assertEqual(plus([1, 2], [3, -2]), [4])
        self.assertEqual(plus([1, 2, 3], [1, -2, -3]), [2])
        self.assertEqual(plus([1, 0, 3], [1, 0, -3]), [2])
        self.assertEqual(plus([1, 2, 3], [-1, -2, -3]), [])
        self.assertEqual(plus([SIXTY], [-SIXTY]), [])
        self.assertEqual(plus(TWELVE, [-count for count in TWELVE]), [])

    def test_empty_lists(self):
        self.assertEqual(plus([], []), [])
        self.assertEqual(plus([], [1, 2]), [1, 2])
        self.assertEqual(plus([1, 2], []), [1, 2])

    def test_noughts_at_the_end(self):
        self.assertEqual(plus([0, 0], [0]), [])
        self.assertEqual(plus([0, 0], []), [])
        self.assertEqual(plus([], [0, 0]), [])
        self.assertEqual(plus([1, 2, 0, 0], [3]), [4, 2])
        self.assertEqual(plus([3], [1, 2, 0, 0]), [4, 2])
        self.assertEqual(plus([1, 2, 0], []), [1, 2])

    def test_sixty_figures(self):
        self.assertEqual(plus([SIXTY], [1]), [10 ** 60])
        self.assertEqual(plus([0, -SIXTY], [0, -SIXTY]), [0, 2 - 2 * 10 ** 60])


class Times(unittest.TestCase):
    def test_written_out(self):
        self.assertEqual(times([1, 1], [-1, 1]), [-1, 0, 1])
        self.assertEqual(times([1, 2], [3, 4, 5]), [3, 10, 13, 10])
        self.assertEqual(times([3, 4, 5], [1, 2]), [3, 10, 13, 10])
        self.assertEqual(times([1, -1, 1], [1, 1]), [1, 0, 0, 1])
        self.assertEqual(times([-2], [1, -3]), [-2, 6])

    def test_empty_list(self):
        for some in polynomials():
            for empty in ([], [0], [0, 0, 0]):
                self.assertEqual(times(some, empty), [])
                self.assertEqual(times(empty, some), [])

    def test_one(self):
        for some in polynomials():
            for one in ([1], [1, 0]):
                self.assertEqual(times(some, one), without_end(some))
                self.assertEqual(times(one, some), without_end(some))

    def test_noughts_at_the_end(self):
        self.assertEqual(times([1, 2, 0], [3, 0, 0]), [3, 6])
        self.assertEqual(times([0, 1, 0], [0, 1, 0]), [0, 0, 1])

    def test_sixty_figures(self):
        self.assertEqual(times([SIXTY], [-SIXTY]), [-SIXTY * SIXTY])
        self.assertEqual(times([0, SIXTY], [1, OTHER_SIXTY]), [0, SIXTY, SIXTY * OTHER_SIXTY])
        self.assertEqual(len(times(TWELVE, OTHER_TWELVE)), 23)


class PutIn(unittest.TestCase):
    def test_written_out(self):
        self.assertEqual(put_in([0, 0, 1], [1, 1]), [1, 2, 1])
        self.assertEqual(put_in([1, 1], [0, 0, 1]), [1, 0, 1])
        self.assertEqual(put_in([1, 2, 3], [4, 5]), [57, 130, 75])
        self.assertEqual(put_in([4, 5], [1, 2, 3]), [9, 10, 15])

    def test_last_numbers_cancel(self):
        self.assertEqual(put_in([-4, 0, 1], [2]), [])
        self.assertEqual(put_in([-4, 0, 1], [2, 0, 0]), [])
        self.assertEqual(put_in([-4, 0, 1], [-2]), [])

    def test_empty_first(self):
        for some in polynomials():
            self.assertEqual(put_in([], some), [])
            self.assertEqual(put_in([0, 0], some), [])

    def test_empty_second(self):
        for some in polynomials():
            self.assertEqual(put_in(some, []), without_end(some[:1]))
            self.assertEqual(put_in(some, [0, 0]), without_end(some[:1]))

    def test_both_empty(self):
        self.assertEqual(put_in([], []), [])

    def test_a_number_alone(self):
        for some in polynomials():
            for number in (1, -1, 2, -5, SIXTY):
                self.assertEqual(put_in([number], some), [number])
                self.assertEqual(put_in(some, [number]), without_end([plain_at(some, number)]))

    def test_x(self):
        for some in polynomials():
            for x in ([0, 1], [0, 1, 0]):
                self.assertEqual(put_in(some, x), without_end(some))
                self.assertEqual(put_in(x, some), without_end(some))

    def test_into_itself(self):
        square = [0, 0, 1]
        self.assertEqual(put_in(square, square), [0, 0, 0, 0, 1])
        some = [1, -2, 1]
        self.assertEqual(put_in(some, some), [0, 0, 4, -4, 1])
        self.assertEqual(len(put_in(TWELVE, TWELVE)), 122)


class Laws(unittest.TestCase):
    def check(self, made, x, number):
        self.assertEqual(at(made, x), number)
        self.assertEqual(plain_at(made, x), number)

    def test_numbers_of_sum_product_and_put_in(self):
        for one in polynomials():
            for other in polynomials():
                total, product, inner = plus(one, other), times(one, other), put_in(one, other)
                for x in PLACES:
                    left, right = plain_at(one, x), plain_at(other, x)
                    self.check(total, x, left + right)
                    self.check(product, x, left * right)
                    self.assertEqual(at(inner, x), at(one, at(other, x)))

    def test_told_lists_have_no_nought_at_the_end(self):
        for one in polynomials():
            for other in polynomials():
                for told in (plus(one, other), times(one, other), put_in(one, other)):
                    self.assertTrue(is_told_list(told))

    def test_noughts_at_the_end_change_no_list(self):
        for one in polynomials():
            for other in polynomials():
                for act in (plus, times, put_in):
                    plain = act(without_end(one), without_end(other))
                    self.assertEqual(act(one + [0, 0], other), plain)
                    self.assertEqual(act(one, other + [0]), plain)


class HandedInAgain(unittest.TestCase):
    def setUp(self):
        long = times(times(TWELVE, OTHER_TWELVE), times(OTHER_TWELVE, TWELVE))
        self.long = times(long, times(TWELVE, OTHER_TWELVE[:9]))

    def test_sixty_four_entries(self):
        self.assertEqual(len(self.long), 64)
        for x in PLACES:
            number = (plain_at(TWELVE, x) ** 3 * plain_at(OTHER_TWELVE, x) ** 2 * plain_at(OTHER_TWELVE[:9], x))
            self.assertEqual(at(self.long, x), number)
            self.assertEqual(at(plus(self.long, self.long), x), 2 * number)
            self.assertEqual(at(plus(self.long, [0, 0, 5]), x), number + 5 * x * x)
            self.assertEqual(at(plus([0, 0, 5], self.long), x), number + 5 * x * x)
            self.assertEqual(at(times(self.long, self.long), x), number * number)

    def test_put_in_of_long_ones(self):
        shifted = put_in(self.long, [-3, 2])
        squared = put_in([1, 2, 1], self.long)
        self.assertEqual(len(shifted), 64)
        self.assertEqual(len(squared), 127)
        for x in PLACES[:9]:
            self.assertEqual(at(shifted, x), plain_at(self.long, 2 * x - 3))
            self.assertEqual(at(squared, x), (plain_at(self.long, x) + 1) ** 2)
        self.assertEqual(put_in(shifted, [3]), [plain_at(self.long, 3)])

    def test_numbers_of_many_figures(self):
        great = at(self.long, SIXTY)
        self.assertGreater(abs(great), 10 ** 3000)
        self.assertEqual(at([1, 1], great), great + 1)
        self.assertEqual(times([great], [great]), [great * great])
        self.assertEqual(plus([great, great], [1, -great]), [great + 1])
        self.assertEqual(put_in([0, 0, 1], [great, 1]), [great * great, 2 * great, 1])


if __name__ == "__main__":
    unittest.main()
