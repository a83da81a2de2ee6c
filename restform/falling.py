"""Falling products: at place k of the list, how many times x (x - 1) .. (x - k + 1) is taken."""

from restform.polys import plus, times, trimmed


# The falling product of k times x is that of k + 1 and k times that of k.
def falls_by_x(some):
    total = [0] * (len(some) + 1)
    for k, count in enumerate(some):
        total[k] += k * count
        total[k + 1] += count
    return total


def falls(some):
    total = []
    for count in reversed(some):
        total = falls_by_x(total)
        total[0] += count
    return trimmed(total)


# From place k on, all falling products share the factors x to x - k + 1:
# so the last entry is taken first, and x - k is put ahead of what lies behind place k.
def unfolded(some):
    total = []
    for k in range(len(some) - 1, -1, -1):
        total = plus(times(total, [-k, 1]), [some[k]])
    return total


def at_falls(some, x):
    number = 0
    for k in range(len(some) - 1, -1, -1):
        number = number * (x - k) + some[k]
    return number
