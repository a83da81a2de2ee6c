"""Polynomials: at place k of the list, how many times x to the k it has."""


# Always a new list, so that nobody shares one with whoever asks.
def trimmed(some):
    end = len(some)
    while end > 0 and some[end - 1] == 0:
        end -= 1
    return some[:end]


def at(some, x):
    number = 0
    for count in reversed(some):
        number = number * x + count
    return number


def plus(one, other):
    total = list(one)
    for k, count in enumerate(other):
        if k < len(total):
            total[k] += count
        else:
            total.append(count)
    return trimmed(total)


def times(one, other):
    # A nought too many at the end spares a case of its own for the empty lists.
    total = [0] * (len(one) + len(other))
    for j, left in enumerate(one):
        for k, right in enumerate(other):
            total[j + k] += left * right
    return trimmed(total)


def put_in(one, other):
    total = []
    for count in reversed(one):
        total = plus(times(total, other), [count])
    return total
