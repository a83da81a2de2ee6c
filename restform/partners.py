"""Partners: forms whose product leaves the rest of 1 everywhere; and where a form's rest is 0."""

from restform.errors import Lone
from restform.tables import table, told_by
from restform.wholes import common_divisor


def lone(rests, form):
    for x, rest in enumerate(table(rests, form)):
        if common_divisor(rests.many, rest) > 1:
            return x
    return None


# For a rest that has no common divisor above 1 with many: there is just one such.
def partner_of_rest(many, rest):
    return [other for other in range(many) if (rest * other - 1) % many == 0][0]


# A form always has this table: such a form, multiplied by itself often enough, leaves 1,
# and so once less often, it is the partner.
def partner(rests, form):
    place = lone(rests, form)
    if place is not None:
        raise Lone(place)
    return told_by(rests, [partner_of_rest(rests.many, rest) for rest in table(rests, form)])


def noughts(rests, form):
    return [x for x, rest in enumerate(table(rests, form)) if rest == 0]
