"""Inputs that several test files share, and the definitions spelled out as plainly as can be."""

from itertools import product
from math import factorial, gcd, prod
from random import Random

SIXTY = 10 ** 60 - 1  # the greatest number of sixty figures
OTHER_SIXTY = 123456789012345678901234567890123456789012345678901234567891

PLACES = [0, 1, -1, 2, -2, 3, 7, -11, 59, 60, 61, -60, 1000, SIXTY, -SIXTY, OTHER_SIXTY, -OTHER_SIXTY]


def figures(size, seed):
    """So many numbers of up to sixty figures, above and below nought, the last one no nought."""
    return [(-1) ** (k * seed + k // 2) * pow(seed, 200 + k, 10 ** 60) for k in range(size)]


TWELVE = figures(12, 7)
OTHER_TWELVE = figures(12, 3)


# Made anew for each asker: a fault that changes a list handed in must not hide behind a spoilt sample.
def polynomials():
    return [
        [], [0], [0, 0, 0], [1], [1, 0], [-1], [5], [-5, 0, 0], [0, 1], [0, -1], [0, 1, 0], [1, 1], [-1, 1],
        [1, -1], [0, 0, 1], [0, 0, -1], [3, 0, 0, 2], [-3, 0, 0, -2], [0, 0, 0, 0, 7, 0], [2, -4, 6, -8],
        [1, 1, 1, 1, 1, 1, 1, 1, 1, 1, 1, 1], [0, 0, 0, 0, 0, 0, 0, 0, 0, 0, 0, 1],
        [1, 0, 0, 0, 0, 0, 0, 0, 0, 0, 0, 0], [SIXTY], [-SIXTY, SIXTY], [SIXTY, -SIXTY],
        [-count for count in figures(12, 7)], figures(12, 7), figures(12, 3),
    ]


def falls_lists():
    return polynomials() + [
        list(range(1, 61)), [0] * 59 + [1], [0] * 59 + [-SIXTY], [1] + [0] * 59, [0] * 60,
        figures(13, 11), figures(33, 7), figures(59, 3) + [0], figures(60, 7),
    ]


def plain_at(some, x):
    return sum(count * x ** k for k, count in enumerate(some))


def falling_product(k, x):
    product = 1
    for step in range(k):
        product *= x - step
    return product


def plain_at_falls(some, x):
    return sum(count * falling_product(k, x) for k, count in enumerate(some))


def without_end(some):
    """The list without the noughts at its end, as a new one."""
    kept = list(some)
    while kept and kept[-1] == 0:
        kept.pop()
    return kept


def spoil(told):
    """Change a list in every place and in its length."""
    for k in range(len(told)):
        told[k] += 1000
    told.append(77)
    told.insert(0, 78)


def is_told_list(some):
    """A told list holds whole numbers (never True or False) and has no nought at its end."""
    return type(some) is list and all(type(count) is int for count in some) and some[-1:] != [0]


ALL_MANY = range(1, 61)
MANY_WITH_ALL_FORMS = (1, 2, 3, 4, 5, 6, 8, 12)  # those by which all forms can be walked


def drawer(seed):
    """Draws the same from the same seed every time."""
    return Random(seed)


def plain_tops(many):
    """The document's words; from 60 on all are 1, since 60 and all below it divide 1 times 2 and so on up to 60."""
    tops = [many // gcd(many, factorial(k)) for k in range(61)]
    return [top for top in tops if top > 1]


def all_forms(many):
    return [list(form) for form in product(*[range(top) for top in plain_tops(many)])]


def drawn_form(draw, many):
    return [draw.randrange(top) for top in plain_tops(many)]


def some_forms(many, seed, size):
    """The form of noughts, the one that is at its bounds everywhere, and drawn ones."""
    draw = drawer(seed * 61 + many)
    tops = plain_tops(many)
    return [[0] * len(tops), [top - 1 for top in tops]] + [drawn_form(draw, many) for step in range(size)]


def drawn_number(draw):
    """Of one to sixty figures, above or below nought."""
    return draw.choice((1, -1)) * draw.randrange(10 ** draw.randint(1, 60))


def drawn_polynomial(draw):
    return [drawn_number(draw) for step in range(draw.randint(0, 12))]


def plain_many_forms(many):
    return prod(plain_tops(many))


def plain_rest(many, form, x):
    """The rest of the form's sum of falling products."""
    total, falling = 0, 1
    for k, count in enumerate(form):
        total += count * falling
        falling *= x - k
    return total % many


def plain_table(many, form):
    return [plain_rest(many, form, x) for x in range(many)]


def is_form(many, form):
    """A told form: a list of whole numbers, as many as tops, each from 0 to less than its top."""
    tops = plain_tops(many)
    return (type(form) is list and all(type(count) is int for count in form) and len(form) == len(tops)
            and all(0 <= count < top for count, top in zip(form, tops)))


def bad_forms(many, form):
    """What is no form: a number more or less, or at each place a number out of its bounds."""
    tops = plain_tops(many)
    found = [form + [0], form + [1], form + [0, 0], [0] + form, form + form + [0]]
    if form:
        found += [form[:-1], form[1:], []]
    for k, top in enumerate(tops):
        for number in (-1, top, top + 1, -top, SIXTY, -SIXTY, 10 ** 60, -10 ** 60):
            found.append(form[:k] + [number] + form[k + 1:])
    return found


def bad_tables(many, told):
    """What is no table: a rest more or less, or at each place a number out of its bounds."""
    found = [told + [0], told + [many - 1], [0] + told, told[:-1], told[1:], told + told, []]
    for x in range(many):
        for number in (-1, many, many + 1, -many, SIXTY, -SIXTY):
            found.append(told[:x] + [number] + told[x + 1:])
    return found


def prime_powers(many):
    """Tuples of a prime and the power of it that divides many, as great as can be."""
    found = []
    for prime in range(2, many + 1):
        power = 1
        while many % (power * prime) == 0 and all(prime % other for other in range(2, prime)):
            power *= prime
        if power > 1:
            found.append((prime, power))
    return found


def drawn_table_by(draw, prime, power, begin):
    """A table by a power of a prime: the rests of begin, changed without changing what it is by the prime."""
    one, other = ([draw.randrange(power) for k in range(4)] for step in range(2))
    return [(plain_at(begin, x) + prime * plain_at(one, x) + (x ** prime - x) * plain_at(other, x)) % power
            for x in range(power)]


def joined_table(many, tables):
    """The one table by many that is each of the tables by its own power."""
    return [next(rest for rest in range(many) if all(rest % len(some) == some[x % len(some)] for some in tables))
            for x in range(many)]


def plain_form(many, told):
    """The form of a table that has one: at k each count below the top of k leads to another rest."""
    form = []
    for k, top in enumerate(plain_tops(many)):
        form.append(next(count for count in range(top) if plain_rest(many, form + [count], k) == told[k]))
    if plain_table(many, form) != told:
        raise AssertionError("no form has this table")
    return form


def exchanging_table_by(draw, prime, power):
    if prime == power:
        return draw.sample(range(prime), prime)
    while True:
        begin = [draw.randrange(power), draw.randrange(power)]
        told = drawn_table_by(draw, prime, power, begin)
        if len(set(told)) == power:
            return told


def exchanging_forms(many, seed, size):
    """Drawn forms whose rests are all unlike."""
    draw = drawer(seed * 61 + many)
    return [plain_form(many, joined_table(many, [exchanging_table_by(draw, prime, power)
                                                 for prime, power in prime_powers(many)])) for step in range(size)]


def coprime_table_by(draw, prime, power):
    if prime == power:
        return [draw.randrange(1, prime) for x in range(prime)]
    while True:
        begin = [draw.randrange(power) for k in range(prime)]
        told = drawn_table_by(draw, prime, power, begin)
        if all(rest % prime for rest in told):
            return told


def coprime_forms(many, seed, size):
    """Drawn forms whose rests have no common divisor above 1 with many."""
    draw = drawer(seed * 61 + many)
    return [plain_form(many, joined_table(many, [coprime_table_by(draw, prime, power)
                                                 for prime, power in prime_powers(many)])) for step in range(size)]


MANY_OF_TWO = range(1, 13)  # those by which two unknowns are taken


def polynomials_two():
    """Of two unknowns, made anew for each asker."""
    return [
        [], [[]], [[], []], [[0]], [[0, 0], [0]], [[1]], [[-1]], [[0, 1]], [[], [1]], [[0], [1]], [[], [], [1]],
        [[0, 0, 1]], [[], [0, 1]], [[0, 1], [1]], [[1, 2, 3], [], [4, 5], [6]], [[], [], [], [], [], [1]],
        [[0, 0, 0, 0, 0, 1]], [[0, 1, 0], [-1, 0, 0, 0]], [[SIXTY], [-SIXTY, SIXTY]], [[1] * 6 for row in range(6)],
        [[0, 0, 0, 0, 0, 0], [], [0, 0, 0, 0, 0, 0]], [[], [], [], [0, 0, 0, 1]], [[], [], [], [], [0, 0, 0, 0, -7]],
        [figures(6, 7), [], figures(3, 3), [0], figures(1, 11), figures(6, 3)],
        [figures(6, seed) for seed in (3, 7, 9, 11, 13, 17)],
    ]


def drawn_polynomial_two(draw):
    return [[drawn_number(draw) for k in range(draw.randint(0, 6))] for j in range(draw.randint(0, 6))]


def plain_at_two(some, x, y):
    return sum(count * x ** j * y ** k for j, row in enumerate(some) for k, count in enumerate(row))


def plain_bounds_two(many):
    size = len(plain_tops(many))
    return [[many // gcd(many, factorial(j) * factorial(k)) for k in range(size)] for j in range(size)]


def plain_rest_two(many, form, x, y):
    """The rest of the sum of products of falling products."""
    by_x, by_y = ([falling_product(k, place) for k in range(len(form))] for place in (x, y))
    return sum(count * by_x[j] * by_y[k] for j, row in enumerate(form) for k, count in enumerate(row)) % many


def plain_grid(many, form):
    """The rests of a form of two unknowns, a row for each x."""
    return [[plain_rest_two(many, form, x, y) for y in range(many)] for x in range(many)]


def plain_form_two(many, grid):
    """The form of a grid of rests that has one."""
    bounds = plain_bounds_two(many)
    form = [[0] * len(bounds) for row in bounds]
    for j, row in enumerate(bounds):
        for k, bound in enumerate(row):
            left = (grid[j][k] - plain_rest_two(many, form, j, k)) % many
            step = factorial(j) * factorial(k)
            form[j][k] = next(count for count in range(bound) if (count * step - left) % many == 0)
    if plain_grid(many, form) != grid:
        raise AssertionError("no form has this grid")
    return form


def is_form_two(many, form):
    """A told form of two unknowns: rows of whole numbers, as many as tops and as long, each below its bound."""
    bounds = plain_bounds_two(many)
    return (type(form) is list and len(form) == len(bounds)
            and all(type(row) is list and len(row) == len(bounds) for row in form)
            and all(type(count) is int and 0 <= count < bound
                    for row, limits in zip(form, bounds) for count, bound in zip(row, limits)))


def some_forms_two(many, seed, size):
    """The form of noughts, the one that is at its bounds everywhere, and drawn ones."""
    draw = drawer(seed * 61 + many)
    bounds = plain_bounds_two(many)
    made = [[[0] * len(bounds) for row in bounds], [[bound - 1 for bound in row] for row in bounds]]
    return made + [[[draw.randrange(bound) for bound in row] for row in bounds] for step in range(size)]


def all_forms_two(many):
    bounds = plain_bounds_two(many)
    size = len(bounds)
    flat = product(*[range(bound) for row in bounds for bound in row])
    return [[list(counts[j * size:(j + 1) * size]) for j in range(size)] for counts in flat]


def with_row(form, j, row):
    """A copy of a list of rows with another row at its place."""
    return [list(old) for old in form[:j]] + [row] + [list(old) for old in form[j + 1:]]


def bad_forms_two(many, form):
    """What is no form of two unknowns: a row or a number more or less, or a number out of its bounds."""
    bounds = plain_bounds_two(many)
    size = len(bounds)
    found = [form + [[0] * size], [[0] * size] + form, form + [[]], form + form + [[0]]]
    if size:
        found += [form[:-1], form[1:], [], [[]] * size]
    for j, row in enumerate(form):
        for wrong in (row + [0], row + [1], [0] + row, row[:-1], row[1:], []):
            found.append(with_row(form, j, list(wrong)))
        for k, bound in enumerate(bounds[j]):
            for number in (-1, bound, bound + 1, -bound, SIXTY, -SIXTY):
                found.append(with_row(form, j, row[:k] + [number] + row[k + 1:]))
    return [[list(row) for row in bad] for bad in found]


def spoil_deep(told):
    """Change every list of what was told, within lists and tuples too."""
    if isinstance(told, (list, tuple)):
        for part in told:
            spoil_deep(part)
    if isinstance(told, list):
        has_rows = any(isinstance(part, list) for part in told)
        for k, part in enumerate(told):
            if not isinstance(part, list):
                told[k] += 1000
        told.append([77] if has_rows else 77)
        told.insert(0, [78] if has_rows else 78)


def lists_within(told):
    """A list and all lists within it, each as often as it is met."""
    found = [told] if isinstance(told, list) else []
    if isinstance(told, (list, tuple)):
        for part in told:
            found += lists_within(part)
    return found
