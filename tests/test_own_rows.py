"""Points 2 and 4 for exchange, partners, pairs and texts."""

import copy
import unittest

from restform.errors import BadForm, Lone, Meets, NoText, TooGreat
from restform.exchange import back, meets, often, rounds
from restform.forms import Rests, form_of
from restform.pairs import at_two, form_two, parting_two, square, value_two
from restform.partners import lone, noughts, partner
from restform.texts import read, shown
from tests.own import MANIES, OwnChecks
from tests.samples import (
    SIXTY, bad_forms, bad_forms_two, coprime_forms, exchanging_forms, figures, plain_table, plain_tops, polynomials,
    polynomials_two, some_forms, some_forms_two,
)

OF_ANY_FORM = [meets, lone, noughts]
OF_EXCHANGING = [back, rounds, often]


def at_two_of(rests, some):
    return at_two(some, -7, 3)


def value_two_of(rests, form):
    return value_two(rests, form, -7, 3)


def shown_of(rests, some):
    return shown(some)


def read_of(rests, line):
    return read(line)


def calls(many):
    """Each function here with lists that may be handed to it, made anew each time."""
    any_forms = some_forms(many, 100, 2)
    leading, coprime = exchanging_forms(many, 101, 2), coprime_forms(many, 102, 2)
    made = [(act, [form]) for act in OF_ANY_FORM for form in any_forms + leading + coprime]
    made += [(act, [form]) for act in OF_EXCHANGING for form in leading]
    made += [(partner, [form]) for form in coprime]
    made += [(shown_of, [some]) for some in polynomials()]
    made += [(read_of, [line]) for line in ("0", "-x", "1x", "11x^11 - 4", "x^2 + 3x", "12x^3 - 7")]
    made += [(at_two_of, [some]) for some in polynomials_two()]
    if many <= 12:
        sums = [form_two(Rests(many), some) for some in ([[0, 1], [1]], [[0, 1]], [[], [1]])]
        made += [(act, [form]) for act in (value_two_of, square) for form in some_forms_two(many, 103, 2) + sums]
        made += [(form_two, [some]) for some in polynomials_two()]
        made += [(parting_two, [one, other]) for one in polynomials_two()[::3] for other in polynomials_two()[::2]]
    return copy.deepcopy(made)


def refused(rests):
    """What is refused, with its class and its fields."""
    many = rests.many
    noughts_form = form_of(rests, [])
    rows = some_forms_two(many, 104, 1)
    made = []
    for form in (noughts_form, form_of(rests, [0, 1])):
        for bad in bad_forms(many, form):
            made += [(BadForm, {}, act, [rests, bad]) for act in OF_ANY_FORM + OF_EXCHANGING + [partner]]
    if many <= 16:
        for bad in bad_forms_two(many, rows[-1]):
            made += [(BadForm, {}, act, [rests, bad]) for act in (value_two_of, square)]
    if many > 1:
        made += [(Meets, {"one": 0, "other": 1}, act, [rests, noughts_form]) for act in OF_EXCHANGING]
        made += [(Lone, {"place": 0}, partner, [rests, noughts_form])]
        made += [(Lone, {"place": many - 1}, partner, [rests, form]) for form in late_lone_forms(rests)]
    if many > 12:
        made += [(TooGreat, {}, act, [rests, form]) for act in (value_two_of, square) for form in rows]
        made += [(TooGreat, {}, form_two, [rests, some]) for some in polynomials_two()]
        made += [(TooGreat, {}, parting_two, [rests, some, [[1]]]) for some in polynomials_two()]
    made += [(TooGreat, {}, shown_of, [rests, some]) for some in ([10 ** 60], [0] * 12 + [1], [1, -10 ** 60, 2])]
    made += [(NoText, {}, read, [line]) for line in ("", "- x", "x + x", "x^1", "x^12", "0x", "1" * 61, "x + ")]
    return made


def late_lone_forms(rests):
    """x + 1 by a prime has its one nought at the last place."""
    many = rests.many
    return [form_of(rests, [1, 1])] if all(many % other for other in range(2, many)) else []


class Own(OwnChecks, unittest.TestCase):
    calls = staticmethod(calls)
    refused = staticmethod(refused)
    kinds = {BadForm, Meets, Lone, TooGreat, NoText}


class HandedIn(unittest.TestCase):
    def test_one_list_handed_in_twice(self):
        for many in (1, 4, 9, 12):
            rests = Rests(many)
            for some in polynomials_two():
                kept = copy.deepcopy(some)
                self.assertIsNone(parting_two(rests, some, some))
                self.assertEqual(some, kept)

    def test_one_row_more_than_once(self):
        for many in (1, 4, 9, 12):
            rests = Rests(many)
            for row in ([], [0], [1, 2], figures(6, 7)):
                some = [row] * 6
                apart = [list(row) for step in range(6)]
                self.assertEqual(form_two(rests, some), form_two(rests, apart))
                self.assertEqual(at_two(some, 5, -6), at_two(apart, 5, -6))
                self.assertIsNone(parting_two(rests, some, apart))
                self.assertEqual(some, apart)
            noughts_row = [0] * len(plain_tops(many))
            alike = [noughts_row] * len(noughts_row)
            self.assertEqual(value_two(rests, alike, 3, 4), 0)
            self.assertEqual(square(rests, alike), None if many == 1 else (0, 0, 0, 1))
            self.assertEqual(noughts_row, [0] * len(plain_tops(many)))

    def test_the_changed_list_is_read_anew(self):
        for many in MANIES:
            rests = Rests(many)
            one, other = exchanging_forms(many, 105, 2)
            for act in OF_ANY_FORM + OF_EXCHANGING:
                handed = list(one)
                act(rests, handed)
                handed[:] = other
                self.assertEqual(act(rests, handed), act(rests, list(other)))
            one, other = coprime_forms(many, 106, 2)
            handed = list(one)
            partner(rests, handed)
            handed[:] = other
            self.assertEqual(partner(rests, handed), partner(rests, list(other)))
            if many <= 12:
                one, other = some_forms_two(many, 107, 2)[2:]
                handed = copy.deepcopy(one)
                value_two(rests, handed, 1, 2), square(rests, handed)
                for row, new in zip(handed, other):
                    row[:] = new
                for x in range(many):
                    self.assertEqual(value_two(rests, handed, x, 2), value_two(rests, copy.deepcopy(other), x, 2))
                self.assertEqual(square(rests, handed), square(rests, copy.deepcopy(other)))

    def test_the_changed_row_is_read_anew(self):
        some = [[1, 2], [3]]
        rests = Rests(5)
        self.assertEqual(at_two(some, 1, 1), 6)
        form_two(rests, some)
        parting_two(rests, some, [[1, 2], [3]])
        some[1][0] = 4
        self.assertEqual(at_two(some, 1, 1), 7)
        self.assertEqual(form_two(rests, some), form_two(rests, [[1, 2], [4]]))
        self.assertEqual(parting_two(rests, some, [[1, 2], [3]]), (1, 0))
        handed = [1, 2]
        self.assertEqual(shown(handed), "2x + 1")
        handed[1] = -3
        self.assertEqual(shown(handed), "-3x + 1")

    def test_changed_into_no_form_and_back(self):
        for many in (2, 4, 9, 12):
            rests = Rests(many)
            handed = form_of(rests, [0, 1])
            kept = rounds(rests, handed)
            handed[0] = many
            for act in OF_ANY_FORM + OF_EXCHANGING + [partner]:
                with self.assertRaises(BadForm):
                    act(rests, handed)
            handed[0] = 0
            self.assertEqual(rounds(rests, handed), kept)
            rows = form_two(rests, [[0, 1], [1]])
            self.assertIsNone(square(rests, rows))
            rows[1].append(0)
            for act in (value_two_of, square):
                with self.assertRaises(BadForm):
                    act(rests, rows)
            rows[1].pop()
            self.assertIsNone(square(rests, rows))


class Told(unittest.TestCase):
    def test_one_round_or_row_changed(self):
        rests = Rests(5)
        step = form_of(rests, [0, 2])
        told = rounds(rests, step)
        told[1].append(9)
        told[0][0] = 4
        self.assertEqual(rounds(rests, step), [[0], [1, 2, 4, 3]])
        self.assertEqual(often(rests, step), 4)
        told = form_two(rests, [])
        told[2][2] = 4
        told[3].pop()
        self.assertEqual(form_two(rests, []), [[0] * 5] * 5)


class Refused(unittest.TestCase):
    def test_refused_again_and_again(self):
        rests = Rests(4)
        for step in range(3):
            for act in OF_EXCHANGING:
                with self.assertRaises(Meets) as taken:
                    act(rests, [0, 1, 1, 0])
                self.assertEqual((taken.exception.one, taken.exception.other), (0, 2))
            with self.assertRaises(Lone) as taken:
                partner(rests, [1, 1, 0, 0])
            self.assertEqual(taken.exception.place, 1)
            with self.assertRaises(NoText):
                read("x + x")
            with self.assertRaises(TooGreat):
                shown([SIXTY + 1])
            with self.assertRaises(TooGreat):
                form_two(Rests(13), [[1]])
            self.assertEqual(often(rests, [1, 3, 0, 0]), 2)
            self.assertEqual(partner(rests, [1, 2, 0, 0]), [1, 2, 0, 0])
            self.assertEqual(read("x + 1"), [1, 1])
            self.assertEqual(shown([SIXTY]), str(SIXTY))

    def test_the_fields_of_a_refusal_changed(self):
        rests = Rests(4)
        with self.assertRaises(Meets) as taken:
            back(rests, [0, 1, 1, 0])
        taken.exception.one, taken.exception.other = 3, 1
        self.assertEqual(meets(rests, [0, 1, 1, 0]), (0, 2))
        with self.assertRaises(Meets) as again:
            rounds(rests, [0, 1, 1, 0])
        self.assertEqual((again.exception.one, again.exception.other), (0, 2))

    def test_no_form_ahead_of_all_else(self):
        for many in MANIES:
            rests = Rests(many)
            bad = form_of(rests, []) + [0]
            self.assertEqual(len(set(plain_table(many, bad))), 1)
            for act in OF_EXCHANGING + [partner]:
                with self.assertRaises(BadForm):
                    act(rests, bad)


if __name__ == "__main__":
    unittest.main()
