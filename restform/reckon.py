"""Reckoning with forms, and their numbers."""

from restform.errors import NoForm
from restform.forms import check_form
from restform.tables import table, told_by


def added(rests, one, other):
    check_form(rests, one)
    check_form(rests, other)
    return [(one[k] + other[k]) % top for k, top in enumerate(rests.tops)]


# Products of forms, and forms put into forms, are reckoned by their tables:
# their polynomials would become far longer than a form is.
def multiplied(rests, one, other):
    left = table(rests, one)
    right = table(rests, other)
    return told_by(rests, [(left[x] * right[x]) % rests.many for x in range(rests.many)])


def put(rests, one, other):
    outer = table(rests, one)
    inner = table(rests, other)
    return told_by(rests, [outer[rest] for rest in inner])


def many_forms(rests):
    product = 1
    for top in rests.tops:
        product *= top
    return product


def number_of(rests, form):
    check_form(rests, form)
    number = 0
    product = 1
    for count, top in zip(form, rests.tops):
        number += count * product
        product *= top
    return number


def form_at(rests, number):
    if number < 0 or number >= many_forms(rests):
        raise NoForm("the numbers of forms are 0 or more and below many_forms")
    form = []
    for top in rests.tops:
        form.append(number % top)
        number = number // top
    return form
