import unittest

from restform.falling import at_falls, falls, unfolded
from restform.polys import at, times
from tests.samples import (
    OTHER_TWELVE, PLACES, SIXTY, TWELVE, falling_product, falls_lists, figures, is_told_list, plain_at,
    plain_at_falls, polynomials, without_end,
)


def falls_by_differences(some):
    """Entry k is the k-th difference at 0 divided by 1 times 2 and so on up to k."""
    row = [plain_at(some, x) for x in range(len(some))]
    found, divisor = [], 1
    for k in range(len(some)):
        divisor *= max(k, 1)
        found.append(row[0] // divisor)
        row = [after - before for before, after in zip(row, row[1:])]
    return without_end(found)


def plain_unfolded(some):
    """Each falling product multiplied out by itself."""
    total, product = [0] * (len(some) + 1), [1]
    for k, count in enumerate(some):
        for place, number in enumerate(product):
            total[place] += count * number
        product = [left - k * right for left, right in zip([0] + product, product + [0])]
    return without_end(total)


class Falls(unittest.TestCase):
    def test_written_out(self):
        self.assertEqual(falls([0, 0, 1]), [0, 1, 1])
        self.assertEqual(falls([0, 0, 0, 1]), [0, 1, 3, 1])
        self.assertEqual(falls([0, 0, 0, 0, 1]), [0, 1, 7, 6, 1])
        self.assertEqual(falls([0, 0, 0, -2]), [0, -2, -6, -2])
        self.assertEqual(falls([0, -1, 1]), [0, 0, 1])
        self.assertEqual(falls([5, -3]), [5, -3])
        self.assertEqual(falls([7]), [7])

    def test_twelve_numbers(self):
        eleventh = [0, 1, 1023, 28501, 145750, 246730, 179487, 63987, 11880, 1155, 55, 1]
        self.assertEqual(falls([0] * 11 + [1]), eleventh)
        self.assertEqual(falls([0] * 11 + [-SIXTY]), [-SIXTY * count for count in eleventh])

    def test_empty_list(self):
        for empty in ([], [0], [0, 0, 0], [0] * 12):
            self.assertEqual(falls(empty), [])

    def test_noughts_at_the_end(self):
        for some in polynomials():
            self.assertEqual(falls(some + [0, 0]), falls(some))

    def test_as_defined(self):
        for some in polynomials():
            told = falls(some)
            self.assertTrue(is_told_list(told))
            self.assertEqual(told, falls_by_differences(some))
            self.assertEqual(len(told), len(without_end(some)))
            for x in PLACES:
                self.assertEqual(plain_at_falls(told, x), plain_at(some, x))


class Unfolded(unittest.TestCase):
    def test_written_out(self):
        self.assertEqual(unfolded([0, 1, 1]), [0, 0, 1])
        self.assertEqual(unfolded([0, 0, 1]), [0, -1, 1])
        self.assertEqual(unfolded([0, 0, 0, 1]), [0, 2, -3, 1])
        self.assertEqual(unfolded([0, 0, 0, 0, -1]), [0, 6, -11, 6, -1])
        self.assertEqual(unfolded([5, -3]), [5, -3])
        self.assertEqual(unfolded([7]), [7])

    def test_empty_list(self):
        for empty in ([], [0], [0, 0, 0], [0] * 60):
            self.assertEqual(unfolded(empty), [])

    def test_noughts_at_the_end(self):
        self.assertEqual(unfolded([0, 1, 1, 0, 0]), [0, 0, 1])
        for some in falls_lists():
            self.assertEqual(unfolded(some + [0, 0]), unfolded(some))

    def test_as_defined(self):
        for some in falls_lists():
            told = unfolded(some)
            self.assertTrue(is_told_list(told))
            self.assertEqual(told, plain_unfolded(some))
            self.assertEqual(len(told), len(without_end(some)))


class LeadBack(unittest.TestCase):
    def test_falls_then_unfolded(self):
        for some in polynomials():
            self.assertEqual(unfolded(falls(some)), without_end(some))
            self.assertEqual(unfolded(falls(some) + [0, 0, 0]), without_end(some))

    def test_unfolded_then_falls(self):
        for some in falls_lists():
            self.assertEqual(falls(unfolded(some)), without_end(some))

    def test_each_falling_product_up_to_sixty_entries(self):
        for k in range(60):
            alone = [0] * k + [1]
            told = unfolded(alone)
            self.assertEqual(falls(told), alone)
            for x in (-2, k - 1, k, k + 1):
                self.assertEqual(plain_at(told, x), falling_product(k, x))


class AtFalls(unittest.TestCase):
    def test_written_out(self):
        self.assertEqual(at_falls([0, 1, 1], 3), 9)
        self.assertEqual(at_falls([0, 1, 1], -3), 9)
        self.assertEqual(at_falls([0, 0, 0, 1], 5), 60)
        self.assertEqual(at_falls([0, 0, 0, 1], -1), -6)
        self.assertEqual(at_falls([0, 0, 0, 1], 2), 0)
        self.assertEqual(at_falls([-7], 4), -7)

    def test_at_nought_is_the_first_entry(self):
        self.assertEqual(at_falls([9, 8, 7, 6], 0), 9)
        self.assertEqual(at_falls([0, 8, 7, 6], 0), 0)

    def test_empty_list(self):
        for x in PLACES:
            number = at_falls([], x)
            self.assertEqual(number, 0)
            self.assertIs(type(number), int)

    def test_as_defined_and_alike_to_unfolded(self):
        for some in falls_lists():
            polynomial = unfolded(some)
            for x in PLACES:
                number = at_falls(some, x)
                self.assertIs(type(number), int)
                self.assertEqual(number, plain_at_falls(some, x))
                self.assertEqual(number, at(polynomial, x))
                self.assertEqual(number, at_falls(some + [0, 0], x))

    def test_alike_to_the_polynomial_it_came_of(self):
        for some in polynomials():
            for x in PLACES:
                self.assertEqual(at_falls(falls(some), x), plain_at(some, x))


class HandedInAgain(unittest.TestCase):
    def test_sixty_four_entries(self):
        middle = times(times(TWELVE, OTHER_TWELVE), times(OTHER_TWELVE, TWELVE))
        long = times(middle, times(TWELVE, OTHER_TWELVE[:9]))
        self.assertEqual(len(long), 64)
        told = falls(long)
        self.assertEqual(told, falls_by_differences(long))
        self.assertEqual(unfolded(told), long)
        for x in PLACES:
            self.assertEqual(at_falls(told, x), plain_at(long, x))

    def test_told_again_and_again(self):
        some = figures(60, 7)
        for step in range(3):
            some = unfolded(some)
        for step in range(3):
            some = falls(some)
        self.assertEqual(some, figures(60, 7))

    def test_numbers_of_many_figures(self):
        great = at_falls(figures(60, 7), SIXTY)
        self.assertGreater(abs(great), 10 ** 3000)
        self.assertEqual(at_falls([1, 1, 1], great), 1 + great * great)
        self.assertEqual(falls([0, 0, great]), [0, great, great])
        self.assertEqual(unfolded([0, great, great]), [0, 0, great])


if __name__ == "__main__":
    unittest.main()
