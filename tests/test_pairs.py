import unittest
from itertools import product
from math import factorial

from restform.errors import BadForm, TooGreat
from restform.falling import unfolded
from restform.forms import Rests, form_of, value
from restform.pairs import at_two, form_two, parting_two, square, value_two
from restform.polys import at
from tests.samples import (
    MANY_OF_TWO, OTHER_SIXTY, PLACES, SIXTY, TWELVE, all_forms_two, bad_forms_two, drawer, drawn_polynomial_two,
    exchanging_forms, figures, is_form_two, plain_at_two, plain_bounds_two, plain_form_two, plain_grid,
    plain_rest_two, plain_table, plain_tops, polynomials_two, some_forms, some_forms_two,
)

TOO_GREAT = range(13, 61)
GREAT_PLACES = [(SIXTY, -SIXTY), (-SIXTY, OTHER_SIXTY), (OTHER_SIXTY, SIXTY), (-OTHER_SIXTY, -1), (-3, -4), (0, -SIXTY),
                (13, 12), (144, 7)]


def places(many):
    return [(x, y) for x in range(many) for y in range(many)]


def plus_two(one, other):
    size = max(len(one), len(other))
    width = max([len(row) for row in one + other], default=0)
    total = [[0] * width for row in range(size)]
    for some in (one, other):
        for j, row in enumerate(some):
            for k, count in enumerate(row):
                total[j][k] += count
    return total


def times_number(number, some):
    return [[number * count for count in row] for row in some]


def falling_two(j, k):
    """The falling product of j by x times that of k by y, as a polynomial of two unknowns."""
    by_x, by_y = unfolded([0] * j + [1]), unfolded([0] * k + [1])
    return [[left * right for right in by_y] for left in by_x]


def plain_parting(many, one, other):
    return min(((x, y) for x, y in places(many) if (plain_at_two(one, x, y) - plain_at_two(other, x, y)) % many),
               default=None)


def plain_square(grid):
    many = range(len(grid))
    rows = [(0, x, y, z) for x in many for y in many for z in many if y < z and grid[x][y] == grid[x][z]]
    columns = [(1, y, x, z) for x in many for y in many for z in many if x < z and grid[x][y] == grid[z][y]]
    return min(rows + columns, default=None)


class AtTwo(unittest.TestCase):
    def test_written_out(self):
        self.assertEqual(at_two([[1, 2], [3]], 5, 7), 1 + 2 * 7 + 3 * 5)
        self.assertEqual(at_two([[], [], [0, 1]], 3, -4), 9 * -4)
        self.assertEqual(at_two([[0, 1]], 3, 4), 4)
        self.assertEqual(at_two([[0], [1]], 3, 4), 3)
        self.assertEqual(at_two([[5]], 0, 0), 5)

    def test_as_defined(self):
        for some in polynomials_two():
            for x in PLACES:
                for y in PLACES:
                    number = at_two(some, x, y)
                    self.assertIs(type(number), int)
                    self.assertEqual(number, plain_at_two(some, x, y))

    def test_drawn(self):
        draw = drawer(70)
        for step in range(300):
            some = drawn_polynomial_two(draw)
            for x, y in GREAT_PLACES + [(2, 3), (-1, 1), (0, 0)]:
                self.assertEqual(at_two(some, x, y), plain_at_two(some, x, y))

    def test_nought_everywhere(self):
        for some in ([], [[]], [[], [], []], [[0, 0], [], [0]]):
            for x, y in GREAT_PLACES + [(0, 0), (1, 1)]:
                self.assertEqual(at_two(some, x, y), 0)

    def test_of_a_told_number(self):
        great = at(TWELVE, SIXTY)
        some = [[great, -great], [], [1, great]]
        for x, y in ((great, -great), (2, great), (great, 0)):
            self.assertEqual(at_two(some, x, y), plain_at_two(some, x, y))


class FormTwo(unittest.TestCase):
    def check(self, rests, some, found):
        form = form_two(rests, some)
        self.assertTrue(is_form_two(rests.many, form), form)
        for x, y in found:
            self.assertEqual(plain_rest_two(rests.many, form, x, y), plain_at_two(some, x, y) % rests.many)
            self.assertEqual(value_two(rests, form, x, y), plain_at_two(some, x, y) % rests.many)

    def test_written_out(self):
        self.assertEqual(form_two(Rests(2), [[0, 0, 1], [1, 1]]), [[0, 1], [1, 1]])
        self.assertEqual(form_two(Rests(2), []), [[0, 0], [0, 0]])
        self.assertEqual(form_two(Rests(1), [[1, 2], [3]]), [])
        self.assertEqual(form_two(Rests(3), [[4, -1], [], [0, 1]]), [[1, 2, 0], [0, 1, 0], [0, 1, 0]])
        self.assertEqual(form_two(Rests(4), [[], [], [0, 0, 1]]),
                         [[0, 0, 0, 0], [0, 1, 1, 0], [0, 1, 0, 0], [0, 0, 0, 0]])

    def test_same_rests_by_every_many(self):
        for many in MANY_OF_TWO:
            rests = Rests(many)
            for some in polynomials_two():
                self.check(rests, some, places(many) + GREAT_PLACES)

    def test_drawn(self):
        draw = drawer(71)
        for many in MANY_OF_TWO:
            rests = Rests(many)
            for step in range(12):
                self.check(rests, drawn_polynomial_two(draw), places(many) + GREAT_PLACES)

    def test_nought_everywhere(self):
        for many in MANY_OF_TWO:
            size = len(plain_tops(many))
            for some in ([], [[]], [[], []], [[0] * 6] * 6, [[many]], [[], [0, -many * SIXTY]], [[0], [], [0, 0]]):
                self.assertEqual(form_two(Rests(many), some), [[0] * size for row in range(size)])

    def test_noughts_at_the_end_change_nothing(self):
        for many in MANY_OF_TWO:
            rests = Rests(many)
            for some in polynomials_two():
                form = form_two(rests, some)
                self.assertEqual(form_two(rests, some + [[]]), form)
                self.assertEqual(form_two(rests, some + [[0, 0]]), form)
                self.assertEqual(form_two(rests, [row + [0] for row in some]), form)

    def test_of_one_unknown_alone(self):
        draw = drawer(72)
        for many in MANY_OF_TWO:
            rests = Rests(many)
            size = len(plain_tops(many))
            for some in ([], [1], [0, 1], figures(6, 7), [draw.randrange(-99, 99) for step in range(6)]):
                alone = form_of(rests, some)
                by_y = [alone] + [[0] * size for row in range(size - 1)]
                by_x = [[count] + [0] * (size - 1) for count in alone]
                self.assertEqual(form_two(rests, [some]), by_y[:size])
                self.assertEqual(form_two(rests, [[count] for count in some]), by_x)

    def test_many_times_a_polynomial_more(self):
        for many in MANY_OF_TWO:
            rests = Rests(many)
            for some in polynomials_two():
                for other in ([[1]], [[], [0, -1]], [[SIXTY] * 6] * 6, [[0, 1], [], [3]]):
                    like = plus_two(some, times_number(many, other))
                    self.assertEqual(form_two(rests, like), form_two(rests, some))
                    self.assertIsNone(parting_two(rests, like, some))

    def test_a_product_its_bound_times_more(self):
        for many in MANY_OF_TWO:
            rests = Rests(many)
            bounds = plain_bounds_two(many)
            for some in ([], [[0, 1], [1]], [figures(6, 7), [], figures(3, 3)]):
                form = form_two(rests, some)
                for j, k in product(range(len(bounds)), repeat=2):
                    for count in (bounds[j][k], -bounds[j][k], bounds[j][k] * SIXTY):
                        like = plus_two(some, times_number(count, falling_two(j, k)))
                        self.assertEqual(form_two(rests, like), form)
                        self.assertIsNone(parting_two(rests, some, like))

    def test_a_product_beyond_all_tops_more(self):
        for many in MANY_OF_TWO:
            rests = Rests(many)
            size = len(plain_tops(many))
            for j, k in ((size, 0), (0, size), (size, size), (size + 1, 1), (1, size + 2)):
                like = plus_two([[0, 1], [1]], falling_two(j, k))
                self.assertEqual(form_two(rests, like), form_two(rests, [[0, 1], [1]]))

    def test_a_product_less_than_its_bound_times_more(self):
        for many in MANY_OF_TWO:
            rests = Rests(many)
            bounds = plain_bounds_two(many)
            for some in ([], [[0, 1], [1]], [figures(6, 7), [], figures(3, 3)]):
                form = form_two(rests, some)
                for j, k in product(range(len(bounds)), repeat=2):
                    for count in range(1, bounds[j][k]):
                        unlike = plus_two(some, times_number(count, falling_two(j, k)))
                        self.assertNotEqual(form_two(rests, unlike), form)
                        self.assertEqual(parting_two(rests, some, unlike), (j, k))
                        self.assertNotEqual(count * factorial(j) * factorial(k) % many, 0)

    def test_one_form_just_where_the_rests_are_alike(self):
        for many, rows, width in ((2, 3, 3), (3, 2, 4), (3, 4, 2), (4, 3, 2), (4, 2, 3), (6, 2, 2)):
            rests = Rests(many)
            form_by_rests, rests_by_form = {}, {}
            for counts in product(range(many), repeat=rows * width):
                some = [list(counts[j * width:(j + 1) * width]) for j in range(rows)]
                left = tuple(plain_at_two(some, x, y) % many for x, y in places(many))
                form = tuple(tuple(row) for row in form_two(rests, some))
                self.assertEqual(form_by_rests.setdefault(left, form), form)
                self.assertEqual(rests_by_form.setdefault(form, left), left)

    def test_each_form_is_its_own(self):
        for many in MANY_OF_TWO:
            rests = Rests(many)
            for form in some_forms_two(many, 72, 3):
                some = []
                for j, row in enumerate(form):
                    for k, count in enumerate(row):
                        some = plus_two(some, times_number(count, falling_two(j, k)))
                self.assertEqual(form_two(rests, some), form)

    def test_told_numbers_handed_in_again(self):
        great = at(figures(12, 7), SIXTY)
        for many in MANY_OF_TWO:
            self.check(Rests(many), [[great, 1], [], [-great, great, 3]], places(many))

    def test_longer_lists(self):
        for many in MANY_OF_TWO:
            self.check(Rests(many), [figures(12, 7)] * 9 + [[]] + [[1] * 14], places(many))
            self.check(Rests(many), [[0] * 63 + [1]] + [[]] * 62 + [[0] * 63 + [-1]], [(0, 1), (many - 1, 2), (3, 3)])


class ValueTwo(unittest.TestCase):
    def check(self, rests, form, found):
        for x, y in found:
            number = value_two(rests, form, x, y)
            self.assertIs(type(number), int)
            self.assertTrue(0 <= number < rests.many)
            self.assertEqual(number, plain_rest_two(rests.many, form, x, y))

    def test_written_out(self):
        three = Rests(3)
        form = [[1, 2, 0], [0, 1, 0], [0, 1, 0]]
        self.assertEqual(value_two(three, form, 2, 1), (1 + 2 + 2 + 2) % 3)
        self.assertEqual(value_two(three, form, 1, 0), 1)
        self.assertEqual(value_two(three, form, -1, -2), (1 - 4 + 2 - 4) % 3)
        self.assertEqual(value_two(Rests(1), [], 5, 6), 0)

    def test_all_forms(self):
        for many in (1, 2):
            for form in all_forms_two(many):
                self.check(Rests(many), form, places(many) + GREAT_PLACES)

    def test_by_every_many(self):
        for many in MANY_OF_TWO:
            rests = Rests(many)
            beyond = [(many, many), (many + 1, -1), (-many, 2 * many - 1)]
            for form in some_forms_two(many, 73, 4):
                self.check(rests, form, places(many) + beyond + GREAT_PLACES)

    def test_at_a_told_number(self):
        great = at(TWELVE, SIXTY)
        for many in MANY_OF_TWO:
            for form in some_forms_two(many, 74, 2):
                self.check(Rests(many), form, [(great, -great), (1, great), (-great, 2)])

    def test_the_form_of_a_product(self):
        for many in MANY_OF_TWO:
            rests = Rests(many)
            for one in some_forms(many, 75, 1):
                for other in some_forms(many, 76, 1):
                    some = [[left * right for right in unfolded(other)] for left in unfolded(one)]
                    form = form_two(rests, some)
                    for x, y in places(many) + GREAT_PLACES:
                        asked = value(rests, one, x) * value(rests, other, y) % many
                        self.assertEqual(value_two(rests, form, x, y), asked)


class PartingTwo(unittest.TestCase):
    def check(self, rests, one, other):
        asked = plain_parting(rests.many, one, other)
        for told in (parting_two(rests, one, other), parting_two(rests, other, one)):
            self.assertEqual(told, asked)
            if told is not None:
                self.assertIs(type(told), tuple)
                self.assertEqual([type(place) for place in told], [int, int])
        self.assertEqual(asked is None, form_two(rests, one) == form_two(rests, other))
        return asked

    def test_written_out(self):
        self.assertIsNone(parting_two(Rests(2), [[0, 0, 1]], [[0, 1]]))
        self.assertEqual(parting_two(Rests(3), [[0, 0, 1]], [[0, 1]]), (0, 2))
        self.assertEqual(parting_two(Rests(3), [[], [], [1]], [[], [1]]), (2, 0))
        self.assertEqual(parting_two(Rests(4), [[], [0, 2]], []), (1, 1))
        self.assertEqual(parting_two(Rests(4), [[0, 1]], [[], [1]]), (0, 1))
        self.assertEqual(parting_two(Rests(2), [[1]], []), (0, 0))
        self.assertIsNone(parting_two(Rests(1), [[1]], []))

    def test_sample_pairs(self):
        for many in MANY_OF_TWO:
            rests = Rests(many)
            for one, other in product(polynomials_two(), repeat=2):
                self.check(rests, one, other)

    def test_drawn(self):
        draw = drawer(77)
        for many in MANY_OF_TWO:
            rests = Rests(many)
            for step in range(30):
                self.check(rests, drawn_polynomial_two(draw), drawn_polynomial_two(draw))

    def test_drawn_that_part_late(self):
        draw = drawer(78)
        for many in MANY_OF_TWO:
            rests = Rests(many)
            size = len(plain_tops(many))
            found = []
            for step in range(30):
                some = [[draw.randrange(-9, 9) for k in range(4)] for j in range(4)]
                j, k = draw.randrange(size + 1), draw.randrange(size + 1)
                more = times_number(draw.randrange(1, 13), falling_two(j, k))
                found.append(self.check(rests, some, plus_two(some, more)))
            self.assertIn(None, found)

    def test_with_itself(self):
        for many in MANY_OF_TWO:
            for some in polynomials_two():
                self.assertIsNone(parting_two(Rests(many), some, some))


class Square(unittest.TestCase):
    def check(self, rests, form):
        told = square(rests, form)
        self.assertEqual(told, plain_square(plain_grid(rests.many, form)))
        if told is not None:
            self.assertIs(type(told), tuple)
            self.assertEqual([type(number) for number in told], [int] * 4)
        return told

    def kinds(self, rests, forms):
        """Which of None, 0 and 1 the answers for these forms begin with."""
        found = [self.check(rests, form) for form in forms]
        return {told if told is None else told[0] for told in found}

    def test_written_out(self):
        four = Rests(4)
        for some, told in (
            ([[0, 1], [1]], None), ([], (0, 0, 0, 1)), ([[0, 1], [0, 1]], (0, 1, 0, 2)), ([[0, 1], [2]], (1, 0, 0, 2)),
            ([[0, 1]], (1, 0, 0, 1)), ([[], [1]], (0, 0, 0, 1)), ([[0, 0, 1], [1]], (0, 0, 0, 2)),
        ):
            self.assertEqual(square(four, form_two(four, some)), told)
        five = Rests(5)
        self.assertEqual(square(five, form_two(five, [[0, 1], [0, 1]])), (0, 4, 0, 1))
        self.assertIsNone(square(Rests(1), []))

    def test_all_forms(self):
        for many, kinds in ((1, {None}), (2, {None, 0, 1}), (3, {None, 0, 1})):
            self.assertEqual(self.kinds(Rests(many), all_forms_two(many)), kinds)

    def test_drawn_by_every_many(self):
        for many in MANY_OF_TWO:
            self.kinds(Rests(many), some_forms_two(many, 79, 30))

    def test_sums_of_forms(self):
        for many in MANY_OF_TWO:
            if many == 1:
                continue
            rests = Rests(many)
            exchanging = exchanging_forms(many, 80, 2)
            others = [form_of(rests, []), form_of(rests, [1, many])]
            for ones, rest, kind in ((exchanging, exchanging, None), (others, exchanging, 1), (exchanging, others, 0),
                                     (others, others, 0)):
                for one in ones:
                    for other in rest:
                        left, right = plain_table(many, one), plain_table(many, other)
                        grid = [[(a + b) % many for b in right] for a in left]
                        self.assertEqual(self.kinds(rests, [plain_form_two(many, grid)]), {kind})

    def test_rows_that_meet_late(self):
        for many in MANY_OF_TWO:
            rests = Rests(many)
            for count in range(1, many):
                self.check(rests, form_two(rests, [[0, 1], [0, count]]))
                self.check(rests, form_two(rests, [[0, 1], [count, 1]]))
                self.check(rests, form_two(rests, [[0, 1], [1, 0, count]]))

    def test_grids_by_primes(self):
        """By a prime every grid has a form: so rows and columns may meet wherever we like."""
        draw = drawer(81)
        for many in (3, 5, 7, 11):
            rests = Rests(many)
            seen = set()
            for step in range(12):
                grid = [[(x + y) % many for y in range(many)] for x in range(many)]
                for x in range(many - 1 - step % many, many):
                    # The rows from this one on keep their rests at the first places, and shuffle the others.
                    kept = draw.randrange(many - 1)
                    grid[x][kept:] = draw.sample(grid[x][kept:], many - kept)
                if step % 3 == 2:
                    grid[draw.randrange(many)][draw.randrange(many)] = draw.randrange(many)
                told = self.check(rests, plain_form_two(many, grid))
                seen.add(told if told is None else told[:2])
            self.assertGreater(len(seen), 2)


class Refused(unittest.TestCase):
    def test_no_form(self):
        for many in MANY_OF_TWO:
            rests = Rests(many)
            for form in some_forms_two(many, 82, 1):
                for bad in bad_forms_two(many, form):
                    with self.assertRaises(BadForm):
                        value_two(rests, bad, 1, 2)
                    with self.assertRaises(BadForm):
                        square(rests, bad)

    def test_numbers_where_the_bound_is_one(self):
        four = Rests(4)
        form = [[0] * 4 for row in range(4)]
        form[2][2] = 1
        with self.assertRaises(BadForm):
            value_two(four, form, 0, 0)
        with self.assertRaises(BadForm):
            square(four, form)

    def test_too_great(self):
        for many in TOO_GREAT:
            rests = Rests(many)
            for some in ([], [[]], [[1, 2], [3]], [figures(6, 7)] * 6):
                with self.assertRaises(TooGreat):
                    form_two(rests, some)
                with self.assertRaises(TooGreat):
                    parting_two(rests, some, [[0, 1]])
                with self.assertRaises(TooGreat):
                    parting_two(rests, some, some)
            for form in some_forms_two(many, 83, 1):
                for x, y in ((0, 0), (SIXTY, -SIXTY)):
                    with self.assertRaises(TooGreat):
                        value_two(rests, form, x, y)
                with self.assertRaises(TooGreat):
                    square(rests, form)

    def test_no_form_ahead_of_too_great(self):
        for many in (13, 14, 16, 20, 24, 30, 36, 48, 60):
            rests = Rests(many)
            for form in some_forms_two(many, 84, 0):
                for bad in bad_forms_two(many, form):
                    with self.assertRaises(BadForm):
                        value_two(rests, bad, 0, 0)
                    with self.assertRaises(BadForm):
                        square(rests, bad)
        for many in TOO_GREAT:
            size = len(plain_tops(many))
            short = [[0] * size] * (size - 1)
            for bad in ([], [[]], [[0]], short, short + [[0] * (size - 1) + [many]]):
                with self.assertRaises(BadForm):
                    value_two(Rests(many), bad, 0, 0)
                with self.assertRaises(BadForm):
                    square(Rests(many), bad)

    def test_twelve_is_not_too_great(self):
        rests = Rests(12)
        form = form_two(rests, [[0, 1], [1]])
        self.assertEqual(value_two(rests, form, 5, 9), 2)
        self.assertIsNone(parting_two(rests, [[1]], [[1]]))
        self.assertIsNone(square(rests, form))

    def test_at_two_knows_no_such_bound(self):
        self.assertEqual(at_two([[13], [60]], 2, 3), 133)


if __name__ == "__main__":
    unittest.main()
