"""What the tops are reckoned from: common divisors, and 1 times 2 times 3 and so on."""


def common_divisor(one, other):
    while other != 0:
        rest = one % other
        one = other
        other = rest
    return one


def product_to(k):
    product = 1
    for factor in range(2, k + 1):
        product *= factor
    return product
