"""Inputs that several test files share, and the definitions spelled out as plainly as can be."""

from itertools import product
from math import factorial, gcd, prod
from random import Random

SIXTY = 10 ** 60 - 1  # the greatest number of sixty figures
OTHER_SIXTY = 123456789012345678901234567890123456789012345678901234567891

PLACES = [0, 1, -1, 2, -2, 3, 7, -11, 59, 60, 61, -60, 1000, SIXTY, -SIXTY, OTHER_SIXTY, -OTHER_SIXTY]


def figures(size, seed):
    """So many numbers of up to sixty figures, above and below nought, the last one no nought."""
    return [(-1) ** (k * seed + k // 2) * pow(seed, 200 + k, 10 ** 60) for k in range(size)]


TWELVE = figures(12, 7)
OTHER_TWELVE = figures(12, 3)


# Made anew for each asker: a fault that changes a list handed in must not hide behind a spoilt sample.
def polynomials():
    return [
        [], [0], [0, 0, 0], [1], [1, 0], [-1], [5], [-5, 0, 0], [0, 1], [0, -1], [0, 1, 0], [1, 1], [-1, 1],
        [1, -1], [0, 0, 1], [0, 0, -1], [3, 0, 0, 2], [-3, 0, 0, -2], [0, 0, 0, 0, 7, 0], [2, -4, 6, -8],
        [1, 1, 1, 1, 1, 1, 1, 1, 1, 1, 1, 1], [0, 0, 0, 0, 0, 0, 0, 0, 0, 0, 0, 1],
        [1, 0, 0, 0, 0, 0, 0, 0, 0, 0, 0, 0], [SIXTY], [-SIXTY, SIXTY], [SIXTY, -SIXTY],
        [-count for count in figures(12, 7)], figures(12, 7), figures(12, 3),
    ]


def falls_lists():
    return polynomials() + [
        list(range(1, 61)), [0] * 59 + [1], [0] * 59 + [-SIXTY], [1] + [0] * 59, [0] * 60,
        figures(13, 11), figures(33, 7), figures(59, 3) + [0], figures(60, 7),
    ]


def plain_at(some, x):
    return sum(count * x ** k for k, count in enumerate(some))


def falling_product(k, x):
    product = 1
    for step in range(k):
        product *= x - step
    return product


def plain_at_falls(some, x):
    return sum(count * falling_product(k, x) for k, count in enumerate(some))


def without_end(some):
    """The list without the noughts at its end, as a new one."""
    kept = list(some)
    while kept and kept[-1] == 0:
        kept.pop()
    return kept


def spoil(told):
    """Change a list in every place and in its length."""
    for k in range(len(told)):
        told[k] += 1000
    told.append(77)
    told.insert(0, 78)


def is_told_list(some):
    """A told list holds whole numbers (never True or False) and has no nought at its end."""
    return type(some) is list and all(type(count) is int for count in some) and some[-1:] != [0]


ALL_MANY = range(1, 61)
MANY_WITH_ALL_FORMS = (1, 2, 3, 4, 5, 6, 8, 12)  # those by which all forms can be walked


def drawer(seed):
    """Draws the same from the same seed every time."""
    return Random(seed)


def plain_tops(many):
    """The document's words; from 60 on all are 1, since 60 and all below it divide 1 times 2 and so on up to 60."""
    tops = [many // gcd(many, factorial(k)) for k in range(61)]
    return [top for top in tops if top > 1]


def all_forms(many):
    return [list(form) for form in product(*[range(top) for top in plain_tops(many)])]


def drawn_form(draw, many):
    return [draw.randrange(top) for top in plain_tops(many)]


def some_forms(many, seed, size):
    """The form of noughts, the one that is at its bounds everywhere, and drawn ones."""
    draw = drawer(seed * 61 + many)
    tops = plain_tops(many)
    return [[0] * len(tops), [top - 1 for top in tops]] + [drawn_form(draw, many) for step in range(size)]


def drawn_number(draw):
    """Of one to sixty figures, above or below nought."""
    return draw.choice((1, -1)) * draw.randrange(10 ** draw.randint(1, 60))


def drawn_polynomial(draw):
    return [drawn_number(draw) for step in range(draw.randint(0, 12))]


def plain_many_forms(many):
    return prod(plain_tops(many))


def plain_rest(many, form, x):
    """The rest of the form's sum of falling products."""
    total, falling = 0, 1
    for k, count in enumerate(form):
        total += count * falling
        falling *= x - k
    return total % many


def plain_table(many, form):
    return [plain_rest(many, form, x) for x in range(many)]


def is_form(many, form):
    """A told form: a list of whole numbers, as many as tops, each from 0 to less than its top."""
    tops = plain_tops(many)
    return (type(form) is list and all(type(count) is int for count in form) and len(form) == len(tops)
            and all(0 <= count < top for count, top in zip(form, tops)))


def bad_forms(many, form):
    """What is no form: a number more or less, or at each place a number out of its bounds."""
    tops = plain_tops(many)
    found = [form + [0], form + [1], form + [0, 0], [0] + form, form + form + [0]]
    if form:
        found += [form[:-1], form[1:], []]
    for k, top in enumerate(tops):
        for number in (-1, top, top + 1, -top, SIXTY, -SIXTY, 10 ** 60, -10 ** 60):
            found.append(form[:k] + [number] + form[k + 1:])
    return found


def bad_tables(many, told):
    """What is no table: a rest more or less, or at each place a number out of its bounds."""
    found = [told + [0], told + [many - 1], [0] + told, told[:-1], told[1:], told + told, []]
    for x in range(many):
        for number in (-1, many, many + 1, -many, SIXTY, -SIXTY):
            found.append(told[:x] + [number] + told[x + 1:])
    return found
