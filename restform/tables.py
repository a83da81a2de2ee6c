"""Tables of rests: those that a form has, and weights against those that none has."""

from restform.errors import BadTable
from restform.forms import check_form, rest_at, top_of
from restform.polys import times
from restform.wholes import common_divisor, product_to


def check_table(rests, some):
    if len(some) != rests.many:
        raise BadTable("a table by m has m rests")
    for rest in some:
        if rest < 0 or rest >= rests.many:
            raise BadTable("a rest by m is 0 to m - 1")


def table(rests, form):
    check_form(rests, form)
    return [rest_at(rests, form, x) for x in range(rests.many)]


# The least place whose rest comes again, and the next place with it; None where all are unlike.
def first_alike(some):
    for x in range(len(some)):
        for y in range(x + 1, len(some)):
            if some[x] == some[y]:
                return (x, y)
    return None


# The first number of the table, of its differences, of their differences, and so on. Of a sum of
# falling products the k-th of them is the count of that of k, times 1 times 2 and so on up to k.
def first_differences(some):
    firsts = []
    row = list(some)
    while row:
        firsts.append(row[0])
        row = [row[x + 1] - row[x] for x in range(len(row) - 1)]
    return firsts


def count_behind(rests, k, first):
    product = product_to(k)
    for count in range(top_of(rests.many, k)):
        if (count * product - first) % rests.many == 0:
            return count
    return None


def told_by(rests, table):
    check_table(rests, table)
    form = []
    for k, first in enumerate(first_differences(table)):
        count = count_behind(rests, k, first)
        if count is None:
            return None
        form.append(count)
    return form[:len(rests.tops)]


# The k-th difference at 0 takes the numbers at 0 to k as often as x - 1 to the k has powers of x.
def difference_weights(many, k):
    weights = [1]
    for step in range(k):
        weights = times(weights, [-1, 1])
    return weights + [0] * (many - len(weights))


def bar(rests, table):
    check_table(rests, table)
    for k, first in enumerate(first_differences(table)):
        divisor = common_divisor(rests.many, product_to(k))
        if first % divisor != 0:
            return (difference_weights(rests.many, k), divisor)
    return None
