"""Two unknowns: at place k of row j, how many times the j-th thing of x times the k-th thing of y is taken."""

from restform.errors import BadForm, TooGreat
from restform.forms import check_counts, form_of, rest_at
from restform.polys import at
from restform.tables import first_alike
from restform.wholes import common_divisor, product_to


def at_two(some, x, y):
    return at([at(row, y) for row in some], x)


# The falling product of j by x can be divided by 1 times 2 and so on up to j, that of k by y by
# the like up to k, so their product by both: by m its count matters only up to the rest by this bound.
def bounds_of_row(rests, j):
    many = rests.many
    return [many // common_divisor(many, product_to(j) * product_to(k)) for k in range(len(rests.tops))]


def check_form_two(rests, form):
    if len(form) != len(rests.tops):
        raise BadForm("a form of two unknowns has as many rows as there are tops")
    for j, row in enumerate(form):
        check_counts(row, bounds_of_row(rests, j))


def check_not_too_great(rests):
    if rests.many > 12:
        raise TooGreat("two unknowns are taken by 1 to 12 alone")


def column(rows, k):
    return [row[k] for row in rows]


# Each row becomes falling products of y, then each column falling products of x. What the single
# tops take away on the way can be divided by m at all x and y, whatever it stands beside.
def form_two(rests, some):
    check_not_too_great(rests)
    size = len(rests.tops)
    by_y = [form_of(rests, row) for row in some]
    columns = [form_of(rests, column(by_y, k)) for k in range(size)]
    form = []
    for j in range(size):
        row = column(columns, j)
        form.append([count % bound for count, bound in zip(row, bounds_of_row(rests, j))])
    return form


# For forms of two unknowns that are known to be such.
def rest_at_two(rests, form, x, y):
    return rest_at(rests, [rest_at(rests, row, y) for row in form], x)


def value_two(rests, form, x, y):
    check_form_two(rests, form)
    check_not_too_great(rests)
    return rest_at_two(rests, form, x, y)


# At x the falling products of more than x are 0, at y the like. So the first unlike row, and
# in it the first unlike place, are the least x and y at which the two part.
def parting_two(rests, one, other):
    left = form_two(rests, one)
    right = form_two(rests, other)
    for j in range(len(left)):
        for k in range(len(left)):
            if left[j][k] != right[j][k]:
                return (j, k)
    return None


def square(rests, form):
    check_form_two(rests, form)
    check_not_too_great(rests)
    for x in range(rests.many):
        met = first_alike([rest_at_two(rests, form, x, y) for y in range(rests.many)])
        if met is not None:
            return (0, x, met[0], met[1])
    for y in range(rests.many):
        met = first_alike([rest_at_two(rests, form, x, y) for x in range(rests.many)])
        if met is not None:
            return (1, y, met[0], met[1])
    return None
