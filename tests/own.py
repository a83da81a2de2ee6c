"""Points 2 and 4, asked of any functions: what is handed in and told, and what a refusal leaves behind."""

import copy

from restform.errors import (
    BadForm, BadRest, BadTable, Lone, Meets, NoForm, NoText, RestError, TooGreat,
)
from restform.forms import Rests
from tests.samples import lists_within, plain_tops, spoil_deep

MANIES = (1, 2, 4, 6, 9, 12, 16, 30, 48, 59, 60)
REFUSALS = [BadRest, BadForm, BadTable, NoForm, TooGreat, NoText, Meets, Lone]


class OwnChecks:
    """A test case beneath it says by calls(many) what is asked with a Rests ahead of it, as tuples of a function
    and its arguments made anew each time, and by refused(rests) what is refused, as tuples of a class, the fields,
    a function and all its arguments."""

    def each_call(self):
        for many in MANIES:
            rests = Rests(many)
            for act, asked in self.calls(many):
                yield rests, act, asked

    def refuse_all(self, rests):
        for kind, fields, act, asked in self.refused(rests):
            with self.assertRaises(kind):
                act(*asked)

    def answers(self, many, rests=None):
        """What all calls tell, by this Rests or each by one of its own."""
        return [act(rests or Rests(many), *asked) for act, asked in self.calls(many)]

    def check_fields(self, rests):
        self.assertEqual(vars(rests), {"many": rests.many, "tops": plain_tops(rests.many)})

    def test_what_is_handed_in_stays(self):
        for rests, act, asked in self.each_call():
            handed = copy.deepcopy(asked)
            told = act(rests, *handed)
            self.assertEqual(handed, asked)
            kept = [id(some) for some in lists_within(handed) + [rests.tops]]
            self.assertFalse(any(id(some) in kept for some in lists_within(told)))
            spoil_deep(told)
            self.assertEqual(handed, asked)
            self.check_fields(rests)

    def test_changed_behind_the_call(self):
        for rests, act, asked in self.each_call():
            handed = copy.deepcopy(asked)
            told = act(rests, *handed)
            kept = copy.deepcopy(told)
            spoil_deep(tuple(handed))
            self.assertEqual(told, kept)
            self.assertEqual(act(rests, *copy.deepcopy(asked)), kept)

    def test_told_and_changed_before_the_same_is_asked_again(self):
        for rests, act, asked in self.each_call():
            told = act(rests, *asked)
            kept = copy.deepcopy(told)
            spoil_deep(told)
            again = act(rests, *asked)
            self.assertEqual(again, kept)
            spoil_deep(again)
            self.assertEqual(act(rests, *copy.deepcopy(asked)), kept)
            self.assertEqual(act(Rests(rests.many), *copy.deepcopy(asked)), kept)

    def test_each_told_list_is_one_of_its_own(self):
        for rests, act, asked in self.each_call():
            found = lists_within(act(rests, *asked)) + lists_within(act(rests, *asked))
            self.assertEqual(len({id(some) for some in found}), len(found))

    def test_nothing_asked_later_changes_what_was_told(self):
        for many in MANIES:
            rests = Rests(many)
            told = self.answers(many, rests)
            kept = copy.deepcopy(told)
            spoil_deep(tuple(self.answers(many, rests)))
            self.refuse_all(rests)
            self.assertEqual(told, kept)

    def test_refused_by_its_own_class_and_no_other(self):
        seen = set()
        for many in MANIES:
            for kind, fields, act, asked in self.refused(Rests(many)):
                with self.assertRaises(RestError) as taken:
                    act(*asked)
                self.assertIs(type(taken.exception), kind)
                self.assertIsInstance(taken.exception, ValueError)
                for other in REFUSALS:
                    self.assertEqual(isinstance(taken.exception, other), other is kind)
                self.assertEqual(vars(taken.exception), fields)
                seen.add(kind)
        self.assertEqual(seen, self.kinds)

    def test_a_refusal_changes_nothing_that_is_handed_in(self):
        for many in MANIES:
            rests = Rests(many)
            for kind, fields, act, asked in self.refused(rests):
                handed = [part for part in asked if isinstance(part, list)]
                kept = copy.deepcopy(handed)
                with self.assertRaises(kind):
                    act(*asked)
                self.assertEqual(handed, kept)
                self.check_fields(rests)

    def test_a_refusal_changes_no_later_answer(self):
        for many in MANIES:
            fresh = self.answers(many)
            rests = Rests(many)
            self.refuse_all(rests)
            self.assertEqual(self.answers(many, rests), fresh)
            self.assertEqual(self.answers(many), fresh)
