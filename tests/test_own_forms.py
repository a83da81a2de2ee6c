"""Points 2 and 4 for forms, tables and reckoning."""

import copy
import unittest

from restform.errors import BadForm, BadRest, BadTable, NoForm
from restform.forms import Rests, form_of, parting, value
from restform.reckon import added, form_at, many_forms, multiplied, number_of, put
from restform.tables import bar, table, told_by
from tests.own import MANIES, OwnChecks
from tests.samples import (
    SIXTY, bad_forms, bad_tables, drawer, figures, plain_many_forms, plain_table, plain_tops, some_forms, spoil,
    spoil_deep,
)

OF_TWO_FORMS = [added, multiplied, put]


def value_at_seven(rests, form):
    return value(rests, form, 7)


def tables_of(many):
    draw = drawer(500 + many)
    forms = [plain_table(many, form) for form in some_forms(many, 40, 1)]
    return forms + [[0] * (many - 1) + [many // 2]] + [[draw.randrange(many) for x in range(many)] for step in (1, 2)]


def calls(many):
    """Each function here with what may be handed to it, made anew each time."""
    last = plain_many_forms(many) - 1
    made = [(many_forms, [])] + [(form_at, [number]) for number in (0, last, last // 2)]
    forms = some_forms(many, 41, 2)
    polys = [[], [0, 0], [0, 1], [many, 1, -1], figures(12, 7)]
    for act in (value_at_seven, table, number_of):
        made += [(act, [form]) for form in forms]
    for act in OF_TWO_FORMS:
        made += [(act, [one, other]) for one in forms for other in forms]
    made += [(act, [some]) for act in (told_by, bar) for some in tables_of(many)]
    made += [(form_of, [some]) for some in polys]
    made += [(parting, [one, other]) for one in polys for other in polys]
    return copy.deepcopy(made)


def refused(rests):
    """What is refused, with its class and its fields."""
    many = rests.many
    form = some_forms(many, 42, 1)[2]
    some = plain_table(many, form)
    count = plain_many_forms(many)
    made = [(BadRest, {}, Rests, [wrong]) for wrong in (0, -1, 61, SIXTY, -SIXTY)]
    for bad in bad_forms(many, form):
        made += [(BadForm, {}, act, [rests, bad]) for act in (value_at_seven, table, number_of)]
        made += [(BadForm, {}, act, [rests, bad, list(form)]) for act in OF_TWO_FORMS]
        made += [(BadForm, {}, act, [rests, list(form), bad]) for act in OF_TWO_FORMS]
        made += [(BadForm, {}, act, [rests, bad, bad]) for act in OF_TWO_FORMS]
    for bad in bad_tables(many, some):
        made += [(BadTable, {}, act, [rests, bad]) for act in (told_by, bar)]
    made += [(NoForm, {}, form_at, [rests, wrong]) for wrong in (-1, -count, count, count + 1, 10 ** 120, -10 ** 120)]
    return made


class Own(OwnChecks, unittest.TestCase):
    calls = staticmethod(calls)
    refused = staticmethod(refused)
    kinds = {BadRest, BadForm, BadTable, NoForm}


class HandedIn(unittest.TestCase):
    def test_one_list_handed_in_twice(self):
        for many in MANIES:
            rests = Rests(many)
            for act, lists in calls(many):
                if len(lists) == 2:
                    once = lists[0]
                    asked = list(once)
                    told = act(rests, asked, asked)
                    kept = copy.deepcopy(told)
                    self.assertEqual(asked, once)
                    self.assertEqual(told, act(rests, list(once), list(once)))
                    spoil_deep(told)
                    self.assertEqual(asked, once)
                    self.assertEqual(act(rests, asked, asked), kept)

    def test_the_changed_list_is_read_anew(self):
        for many in MANIES:
            rests = Rests(many)
            one, other = some_forms(many, 43, 2)[2:]
            fresh = [table(rests, one), number_of(rests, one), value(rests, one, 3)]
            handed = list(other)
            table(rests, handed), number_of(rests, handed), value(rests, handed, 3)
            handed[:] = one
            self.assertEqual([table(rests, handed), number_of(rests, handed), value(rests, handed, 3)], fresh)
            for act in OF_TWO_FORMS:
                left, right = list(one), list(other)
                act(rests, left, right)
                left[:], right[:] = other, one
                self.assertEqual(act(rests, left, right), act(rests, other, one))
            handed = [0] * many
            self.assertEqual(told_by(rests, handed), [0] * len(plain_tops(many)))
            handed[:] = plain_table(many, one)
            self.assertEqual(told_by(rests, handed), one)
            handed[:] = tables_of(many)[-1]
            self.assertEqual(bar(rests, handed), bar(rests, list(handed)))
            handed = [1]
            form_of(rests, handed)
            parting(rests, handed, [])
            handed[:] = []
            self.assertEqual(form_of(rests, handed), [0] * len(plain_tops(many)))
            self.assertIsNone(parting(rests, handed, []))

    def test_changed_into_no_form_and_back(self):
        for many in MANIES:
            rests = Rests(many)
            form = some_forms(many, 44, 1)[2]
            handed = list(form)
            kept = table(rests, handed)
            handed.append(0)
            with self.assertRaises(BadForm):
                table(rests, handed)
            handed.pop()
            self.assertEqual(table(rests, handed), kept)
            handed = list(kept)
            self.assertEqual(told_by(rests, handed), form)
            handed[0] = many
            for act in (told_by, bar):
                with self.assertRaises(BadTable):
                    act(rests, handed)
            handed[0] = kept[0]
            self.assertEqual(told_by(rests, handed), form)


class Told(unittest.TestCase):
    def test_weights_of_bar_are_the_askers_own(self):
        seen = 0
        for many in MANIES:
            rests = Rests(many)
            for some in tables_of(many):
                told = bar(rests, some)
                if told is not None:
                    seen += 1
                    kept = list(told[0])
                    self.assertIsNot(bar(rests, some)[0], told[0])
                    spoil(told[0])
                    self.assertEqual(bar(rests, some)[0], kept)
        self.assertGreater(seen, 10)

    def test_tops_of_another_one(self):
        for many in MANIES:
            one, other = Rests(many), Rests(many)
            self.assertIsNot(one.tops, other.tops)


class Refused(unittest.TestCase):
    def test_refused_again_and_again(self):
        rests = Rests(4)
        for step in range(3):
            with self.assertRaises(BadForm):
                value(rests, [4, 0, 0, 0], 1)
            with self.assertRaises(BadTable):
                told_by(rests, [0, 0, 0, 4])
            with self.assertRaises(NoForm):
                form_at(rests, 64)
            self.assertEqual(value(rests, [3, 0, 0, 0], 1), 3)
            self.assertEqual(told_by(rests, [0, 0, 0, 0]), [0, 0, 0, 0])
            self.assertEqual(form_at(rests, 63), [3, 3, 1, 1])


if __name__ == "__main__":
    unittest.main()
