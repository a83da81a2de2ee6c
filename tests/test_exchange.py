import unittest

from restform.errors import BadForm, Meets
from restform.exchange import back, meets, often, rounds
from restform.forms import Rests, form_of
from restform.reckon import put
from tests.samples import (
    ALL_MANY, MANY_WITH_ALL_FORMS, all_forms, bad_forms, exchanging_forms, is_form, plain_form, plain_table,
    some_forms,
)

OF_EXCHANGING = [back, rounds, often]


def plain_meeting(told):
    """The least x with a like y above it, and for it the least such y."""
    many = len(told)
    pairs = [(x, y) for x in range(many) for y in range(many) if x < y and told[x] == told[y]]
    return min(pairs, default=None)


def forms_of(many, seed):
    """Drawn forms: such as exchange the rests, and such as mostly do not."""
    return exchanging_forms(many, seed, 6) + some_forms(many, seed, 12)


class Exchange(unittest.TestCase):
    def check_meets(self, rests, form):
        told = meets(rests, form)
        asked = plain_meeting(plain_table(rests.many, form))
        self.assertEqual(told, asked)
        if told is None:
            return True
        self.assertIs(type(told), tuple)
        self.assertEqual([type(place) for place in told], [int, int])
        for act in OF_EXCHANGING:
            with self.assertRaises(Meets) as taken:
                act(rests, form)
            self.assertEqual((taken.exception.one, taken.exception.other), asked)
            self.assertEqual(vars(taken.exception), {"one": asked[0], "other": asked[1]})
            self.assertEqual([type(taken.exception.one), type(taken.exception.other)], [int, int])
        return False

    def check_back(self, rests, form):
        many = rests.many
        behind = back(rests, form)
        self.assertTrue(is_form(many, behind), behind)
        leads, returns = plain_table(many, form), plain_table(many, behind)
        self.assertEqual([returns[leads[x]] for x in range(many)], list(range(many)))
        self.assertEqual([leads[returns[x]] for x in range(many)], list(range(many)))
        same = form_of(rests, [0, 1])
        self.assertEqual(put(rests, behind, form), same)
        self.assertEqual(put(rests, form, behind), same)
        self.assertEqual(back(rests, behind), form)

    def check_rounds(self, rests, form):
        many = rests.many
        leads = plain_table(many, form)
        told = rounds(rests, form)
        self.assertIs(type(told), list)
        for places in told:
            self.assertIs(type(places), list)
            self.assertTrue(all(type(place) is int for place in places))
            self.assertEqual(places[0], min(places))
            self.assertEqual([leads[place] for place in places], places[1:] + places[:1])
        self.assertEqual(sorted(place for places in told for place in places), list(range(many)))
        firsts = [places[0] for places in told]
        self.assertEqual(firsts, sorted(firsts))

    def check_often(self, rests, form):
        many = rests.many
        leads = plain_table(many, form)
        count = often(rests, form)
        self.assertIs(type(count), int)
        if count > 5000:
            # Too often to be walked: then by the rounds, each of which must come back, and none sooner.
            self.check_often_by_rounds(rests, form, count)
            return
        seen, places = 1, list(leads)
        while places != list(range(many)):
            seen, places = seen + 1, [leads[place] for place in places]
        self.assertEqual(count, seen)

    def check_often_by_rounds(self, rests, form, count):
        sizes = [len(places) for places in rounds(rests, form)]
        self.assertTrue(all(count % size == 0 for size in sizes))
        for prime in range(2, 60):
            if count % prime == 0:
                self.assertFalse(all(count // prime % size == 0 for size in sizes))

    def check(self, rests, form):
        exchanges = self.check_meets(rests, form)
        if exchanges:
            self.check_back(rests, form)
            self.check_rounds(rests, form)
            self.check_often(rests, form)
        return exchanges

    def test_all_forms(self):
        for many in MANY_WITH_ALL_FORMS + (9,):
            rests = Rests(many)
            found = [self.check(rests, form) for form in all_forms(many)]
            self.assertIn(True, found)
            self.assertEqual(False in found, many > 1)

    def test_drawn_forms_by_every_many(self):
        for many in ALL_MANY:
            rests = Rests(many)
            found = [self.check(rests, form) for form in forms_of(many, 50)]
            self.assertGreaterEqual(found.count(True), 6)
            self.assertEqual(False in found, many > 1)

    def test_more_drawn_forms(self):
        for many in (60, 48, 36, 30, 16):
            rests = Rests(many)
            for seed in range(51, 56):
                for form in forms_of(many, seed):
                    self.check(rests, form)

    def test_written_out(self):
        four = Rests(4)
        turn = [1, 3, 0, 0]
        self.assertIsNone(meets(four, turn))
        self.assertEqual(back(four, turn), turn)
        self.assertEqual(rounds(four, turn), [[0, 1], [2, 3]])
        self.assertEqual(often(four, turn), 2)
        square = [0, 1, 1, 0]
        self.assertEqual(meets(four, square), (0, 2))
        five = Rests(5)
        cube = form_of(five, [0, 0, 0, 1])
        self.assertEqual(rounds(five, cube), [[0], [1], [2, 3], [4]])
        self.assertEqual(often(five, cube), 2)
        six = Rests(6)
        self.assertEqual(rounds(six, form_of(six, [1, 5])), [[0, 1], [2, 5], [3, 4]])

    def test_x_itself(self):
        for many in ALL_MANY:
            rests = Rests(many)
            same = form_of(rests, [0, 1])
            self.assertIsNone(meets(rests, same))
            self.assertEqual(back(rests, same), same)
            self.assertEqual(rounds(rests, same), [[x] for x in range(many)])
            self.assertEqual(often(rests, same), 1)

    def test_x_and_one(self):
        for many in ALL_MANY:
            rests = Rests(many)
            step = form_of(rests, [1, 1])
            self.assertIsNone(meets(rests, step))
            self.assertEqual(back(rests, step), form_of(rests, [-1, 1]))
            self.assertEqual(rounds(rests, step), [list(range(many))])
            self.assertEqual(often(rests, step), many)

    def test_by_one(self):
        one = Rests(1)
        self.assertIsNone(meets(one, []))
        self.assertEqual(back(one, []), [])
        self.assertEqual(rounds(one, []), [[0]])
        self.assertEqual(often(one, []), 1)

    def test_rests_that_meet_late(self):
        for prime in (7, 11, 13, 59):
            rests = Rests(prime)
            last = prime - 1
            # The rests of x but for that at the last place, which is the one's at another place.
            for place in (0, 1, last - 1):
                told = list(range(last)) + [place]
                form = [0, 1] + [0] * (prime - 2)
                shift = next(count for count in range(prime)
                             if plain_table(prime, form[:-1] + [count]) == told)
                form[-1] = shift
                self.assertEqual(meets(rests, form), (place, last))
                self.check_meets(rests, form)

    def test_rests_that_are_all_alike(self):
        for many in ALL_MANY:
            if many > 1:
                rests = Rests(many)
                for count in (0, 1, many - 1):
                    self.assertEqual(meets(rests, form_of(rests, [count])), (0, 1))
                    self.check_meets(rests, form_of(rests, [count]))

    def test_often_of_unlike_rounds(self):
        # Rounds of 2, 3, 5 and so on together come back only after all of these times.
        for many, sizes, count in ((59, (2, 3, 5, 7, 11, 13), 30030), (7, (4, 2), 4), (11, (6, 4), 12), (5, (2, 3), 6)):
            leads, begin = list(range(many)), 0
            for size in sizes:
                for step in range(size):
                    leads[begin + step] = begin + (step + 1) % size
                begin += size
            rests = Rests(many)
            form = plain_form(many, leads)
            self.assertEqual(often(rests, form), count)
            asked = []
            begin = 0
            for size in sizes:
                asked.append(list(range(begin, begin + size)))
                begin += size
            self.assertEqual(rounds(rests, form), asked + [[x] for x in range(begin, many)])

    def test_often_by_putting_the_form_into_itself(self):
        for many in (1, 2, 3, 4, 6, 8, 9, 10, 12):
            rests = Rests(many)
            same = form_of(rests, [0, 1])
            for form in exchanging_forms(many, 57, 8):
                seen, reached = 1, form
                while reached != same:
                    seen, reached = seen + 1, put(rests, form, reached)
                self.assertEqual(often(rests, form), seen)

    def test_no_form_is_refused_first(self):
        for many in (1, 2, 4, 6, 9, 12, 16, 30, 36, 48, 59, 60):
            rests = Rests(many)
            # The form of noughts would be refused with Meets, x would not.
            for form in (form_of(rests, []), form_of(rests, [0, 1])):
                for bad in bad_forms(many, form):
                    for act in [meets] + OF_EXCHANGING:
                        with self.assertRaises(BadForm):
                            act(rests, bad)


if __name__ == "__main__":
    unittest.main()
