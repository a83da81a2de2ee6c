"""Forms: the one list of counts of falling products for all polynomials that leave the same rests."""

from restform.errors import BadForm, BadRest
from restform.falling import at_falls, falls
from restform.wholes import common_divisor, product_to


# The falling product of k can be divided by 1 times 2 and so on up to k at every x:
# so by m its count matters only up to the rest that it leaves by this top.
def top_of(many, k):
    return many // common_divisor(many, product_to(k))


def tops_above_one(many):
    tops = []
    top = top_of(many, 0)
    while top > 1:
        tops.append(top)
        top = top_of(many, len(tops))
    return tops


class Rests:
    def __init__(self, many):
        if many < 1 or many > 60:
            raise BadRest("a number to divide by is 1 to 60")
        self.many = many
        self.tops = tops_above_one(many)


def check_counts(counts, bounds):
    if len(counts) != len(bounds):
        raise BadForm("a form has as many numbers as there are tops")
    for count, bound in zip(counts, bounds):
        if count < 0 or count >= bound:
            raise BadForm("a form's number is 0 or more and below its bound")


def check_form(rests, form):
    check_counts(form, rests.tops)


def form_of(rests, some):
    # Rests in the place of the numbers themselves keep long ones from growing.
    counts = falls([number % rests.many for number in some])
    filled = counts + [0] * len(rests.tops)
    return [count % top for count, top in zip(filled, rests.tops)]


# For forms that are known to be such; a form has the same rest at x and at the rest of x.
def rest_at(rests, form, x):
    return at_falls(form, x % rests.many) % rests.many


def value(rests, form, x):
    check_form(rests, form)
    return rest_at(rests, form, x)


# At x the falling products of more than x are 0. So where two forms are alike ahead of place k,
# they leave the same rests ahead of it; and unlike counts below the top of k part them at k.
def parting(rests, one, other):
    left = form_of(rests, one)
    right = form_of(rests, other)
    for k in range(len(rests.tops)):
        if left[k] != right[k]:
            return k
    return None
