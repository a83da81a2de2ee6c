"""Inputs that several test files share, and the definitions spelled out as plainly as can be."""

SIXTY = 10 ** 60 - 1  # the greatest number of sixty figures
OTHER_SIXTY = 123456789012345678901234567890123456789012345678901234567891

PLACES = [0, 1, -1, 2, -2, 3, 7, -11, 59, 60, 61, -60, 1000, SIXTY, -SIXTY, OTHER_SIXTY, -OTHER_SIXTY]


def figures(size, seed):
    """So many numbers of up to sixty figures, above and below nought, the last one no nought."""
    return [(-1) ** (k * seed + k // 2) * pow(seed, 200 + k, 10 ** 60) for k in range(size)]


TWELVE = figures(12, 7)
OTHER_TWELVE = figures(12, 3)


# Made anew for each asker: a fault that changes a list handed in must not hide behind a spoilt sample.
def polynomials():
    return [
        [], [0], [0, 0, 0], [1], [1, 0], [-1], [5], [-5, 0, 0], [0, 1], [0, -1], [0, 1, 0], [1, 1], [-1, 1],
        [1, -1], [0, 0, 1], [0, 0, -1], [3, 0, 0, 2], [-3, 0, 0, -2], [0, 0, 0, 0, 7, 0], [2, -4, 6, -8],
        [1, 1, 1, 1, 1, 1, 1, 1, 1, 1, 1, 1], [0, 0, 0, 0, 0, 0, 0, 0, 0, 0, 0, 1],
        [1, 0, 0, 0, 0, 0, 0, 0, 0, 0, 0, 0], [SIXTY], [-SIXTY, SIXTY], [SIXTY, -SIXTY],
        [-count for count in figures(12, 7)], figures(12, 7), figures(12, 3),
    ]


def falls_lists():
    return polynomials() + [
        list(range(1, 61)), [0] * 59 + [1], [0] * 59 + [-SIXTY], [1] + [0] * 59, [0] * 60,
        figures(13, 11), figures(33, 7), figures(59, 3) + [0], figures(60, 7),
    ]


def plain_at(some, x):
    return sum(count * x ** k for k, count in enumerate(some))


def falling_product(k, x):
    product = 1
    for step in range(k):
        product *= x - step
    return product


def plain_at_falls(some, x):
    return sum(count * falling_product(k, x) for k, count in enumerate(some))


def without_end(some):
    """The list without the noughts at its end, as a new one."""
    kept = list(some)
    while kept and kept[-1] == 0:
        kept.pop()
    return kept


def is_told_list(some):
    """A told list holds whole numbers (never True or False) and has no nought at its end."""
    return type(some) is list and all(type(count) is int for count in some) and some[-1:] != [0]
