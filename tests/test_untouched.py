"""What point 2 says of everything: nothing handed in is changed, and told lists are the asker's own."""

import copy
import unittest

from drawnword.forms import alike, form, numbers, read_from
from drawnword.looks import looked
from drawnword.words import crossed, crossed_with, is_name, is_word, names_of, partner
from tests.helper import Dice, renamed, thrown_even_word, thrown_word

WORDS = ([[], ["a", "a"], list("abab"), list("abcabc"), list("abcabdecde"), list("aebfcadbecfd")]
         + [thrown_word(Dice(seed), 30) for seed in (31, 32)] + [thrown_even_word(Dice(33), 12)])


def calls_of(word):
    """Every call that takes this word, as the function and what is handed in."""
    yield is_word, [word]
    yield names_of, [word]
    yield numbers, [word]
    yield form, [word]
    yield looked, [word]
    for start in {0, len(word) // 2, max(0, len(word) - 1)}:
        for back in (False, True):
            yield read_from, [word, start, back]
    yield alike, [word, renamed(word[::-1])]
    yield alike, [word, word]
    yield alike, [word, ["a", "b", "a", "b"]]
    if word:
        yield partner, [word, 0]
        yield crossed, [word, word[0], word[-1]]
        yield crossed_with, [word, word[0]]


def lists_in(told):
    if isinstance(told, list):
        yield told
    if isinstance(told, (list, tuple)):
        for thing in told:
            yield from lists_in(thing)


class Untouched(unittest.TestCase):

    def test_nothing_handed_in_is_changed(self):
        for word in WORDS:
            for deed, given in calls_of(list(word)):
                kept = copy.deepcopy(given)
                deed(*given)
                self.assertEqual(given, kept, deed)

    def test_told_lists_are_none_of_those_handed_in(self):
        for word in WORDS:
            for deed, given in calls_of(list(word)):
                told = list(lists_in(deed(*given)))
                for thing in lists_in(given):
                    self.assertFalse(any(one is thing for one in told), deed)

    def test_what_is_done_to_a_told_list_changes_no_later_answer(self):
        for word in WORDS:
            for deed, given in calls_of(list(word)):
                first = deed(*given)
                kept = copy.deepcopy(first)
                for told in lists_in(first):
                    told.clear()
                    told.append("spoilt")
                self.assertEqual(deed(*given), kept, deed)

    def test_what_is_handed_in_may_be_changed_behind_the_call(self):
        for word in WORDS:
            for deed, fresh in calls_of(list(word)):
                given = copy.deepcopy(fresh)
                told = deed(*given)
                kept = copy.deepcopy(told)
                for thing in lists_in(given):
                    thing.reverse()
                    thing.append("spoilt")
                self.assertEqual(told, kept, deed)
                self.assertEqual(deed(*fresh), kept, deed)

    def test_what_is_asked_later_changes_no_told_list(self):
        told = []
        for word in WORDS:
            for deed, given in calls_of(list(word)):
                answer = deed(*given)
                told.append((answer, copy.deepcopy(answer)))
        for answer, kept in told:
            self.assertEqual(answer, kept)

    def test_answers_of_yes_and_no_are_truths(self):
        self.assertIs(type(is_name("a")), bool)
        self.assertIs(type(is_name("")), bool)
        for word in WORDS:
            self.assertIs(type(is_word(word)), bool)
