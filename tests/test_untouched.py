"""What point 2 says of everything: nothing handed in is changed, and told lists are the asker's own."""

import copy
import unittest

from drawnword.clerk import Clerk
from drawnword.colours import borders, by_turns, colours, heights
from drawnword.drawings import drawing, is_drawing, patches
from drawnword.errors import DrawError, NotDrawn
from drawnword.forms import alike, form, numbers, read_from
from drawnword.looks import looked
from drawnword.moves import curled, poked, uncurled, unpoked
from drawnword.pieces import is_whole, parted, together
from drawnword.rings import rings
from drawnword.texts import read_word, show_word
from drawnword.turns import turns
from drawnword.words import crossed, crossed_with, is_name, is_word, names_of, partner
from tests.helper import (Dice, are_a_drawing, crossings_of, other_hands, renamed, set_in_by_chance, thrown_crossings,
                          thrown_even_word, thrown_word, twice_in_a_row)

WORDS = ([[], ["a", "a"], list("abab"), list("abcabc"), list("abcabdecde"), list("aebfcadbecfd"), list("abcadcbd")]
         + [thrown_word(Dice(seed), 30) for seed in (31, 32)] + [thrown_even_word(Dice(33), 12)]
         + [twice_in_a_row(29), set_in_by_chance(Dice(34), 30)[0]])


def calls_of(word):
    """Every call that takes this word, as the function and what is handed in."""
    yield is_word, [word]
    yield names_of, [word]
    yield numbers, [word]
    yield form, [word]
    yield looked, [word]
    yield drawing, [word]
    yield by_turns, [word]
    yield rings, [word]
    yield is_whole, [word]
    yield parted, [word]
    yield together, [parted(word)]
    yield show_word, [word]
    yield read_word, [show_word(word)]
    yield from calls_with_curls(word)
    for start in {0, len(word) // 2, max(0, len(word) - 1)}:
        for back in (False, True):
            yield read_from, [word, start, back]
    yield alike, [word, renamed(word[::-1])]
    yield alike, [word, word]
    yield alike, [word, ["a", "b", "a", "b"]]
    if word:
        yield partner, [word, 0]
        yield crossed, [word, word[0], word[-1]]
        yield crossed_with, [word, word[0]]
    yield from calls_with_crossings(word)


def calls_with_curls(word):
    for at in (-1, 0, len(word) // 2, len(word), len(word) + 1):
        for name in ["zz", "A"] + word[:1]:
            yield curled, [word, at, name]
    for name in ["zz"] + names_of(word):
        yield uncurled, [word, name]


def calls_with_crossings(word):
    some = [crossings_of(word, set()), thrown_crossings(Dice(35), word)]
    if looked(word)[0] == "sides":
        some += [drawing(word), other_hands(drawing(word))]
    for crossings in some:
        yield patches, [word, crossings]
        yield is_drawing, [word, crossings]
        if are_a_drawing(word, crossings):
            yield borders, [word, crossings]
            yield colours, [word, crossings]
            for outside in {0, 1, len(crossings) + 1}:
                yield heights, [word, crossings, outside]
                yield turns, [word, crossings, outside]
            for number, walk in enumerate(patches(word, crossings)):
                yield unpoked, [word, crossings, number]
                for other in walk[1:3] + [-1]:
                    yield poked, [word, crossings, (walk + [0])[0], other, "yy", "zz"]


def told_by(deed, given):
    """What is told, or what the refusal bears."""
    try:
        return deed(*given)
    except NotDrawn as refusal:
        return ("refused", refusal.why)
    except DrawError as refusal:
        return ("refused", type(refusal).__name__)


def lists_in(told):
    if isinstance(told, list):
        yield told
    if isinstance(told, (list, tuple)):
        for thing in told:
            yield from lists_in(thing)


class Untouched(unittest.TestCase):

    def test_nothing_handed_in_is_changed(self):
        for word in WORDS:
            for deed, given in calls_of(list(word)):
                kept = copy.deepcopy(given)
                told_by(deed, given)
                self.assertEqual(given, kept, deed)

    def test_told_lists_are_none_of_those_handed_in(self):
        for word in WORDS:
            for deed, given in calls_of(list(word)):
                told = list(lists_in(told_by(deed, given)))
                for thing in lists_in(given):
                    self.assertFalse(any(one is thing for one in told), deed)
                self.assertEqual(len({id(one) for one in told}), len(told), deed)

    def test_what_is_done_to_a_told_list_changes_no_later_answer(self):
        for word in WORDS:
            for deed, given in calls_of(list(word)):
                first = told_by(deed, given)
                kept = copy.deepcopy(first)
                # Gathered ahead: a list that is cleared shows its inner lists no more.
                for told in list(lists_in(first)):
                    told.clear()
                    told.append("spoilt")
                self.assertEqual(told_by(deed, given), kept, deed)

    def test_what_is_handed_in_may_be_changed_behind_the_call(self):
        for word in WORDS:
            for deed, fresh in calls_of(list(word)):
                given = copy.deepcopy(fresh)
                told = told_by(deed, given)
                kept = copy.deepcopy(told)
                for thing in list(lists_in(given)):
                    thing.reverse()
                    thing.append("spoilt")
                self.assertEqual(told, kept, deed)
                self.assertEqual(told_by(deed, fresh), kept, deed)

    def test_what_is_asked_later_changes_no_told_list(self):
        told = []
        for word in WORDS:
            for deed, given in calls_of(list(word)):
                answer = told_by(deed, given)
                told.append((answer, copy.deepcopy(answer)))
        for answer, kept in told:
            self.assertEqual(answer, kept)

    def test_every_move_is_tried_both_ways(self):
        tried = {(deed, type(told_by(deed, given))) for word in WORDS for deed, given in calls_of(word)}
        for deed in (curled, uncurled, poked, unpoked):
            self.assertTrue({(deed, list), (deed, tuple)} <= tried)

    def test_a_clerks_answers_change_no_later_ones(self):
        for word in WORDS:
            clerk = Clerk()
            clerk.say(f"word {show_word(word)}")
            rows = ("told", "why", "form", "patches", "rings", "pieces", "alike a a", "piece 99", "nothing")
            first = [copy.deepcopy(told_by(clerk.say, [row])) for row in rows]
            for row in rows:
                for told in list(lists_in(told_by(clerk.say, [row]))):
                    told.append("spoilt")
            self.assertEqual([told_by(clerk.say, [row]) for row in rows], first)

    def test_answers_of_yes_and_no_are_truths(self):
        self.assertIs(type(is_name("a")), bool)
        self.assertIs(type(is_name("")), bool)
        for word in WORDS:
            self.assertIs(type(is_word(word)), bool)
            self.assertIs(type(is_whole(word)), bool)
            for crossings in (crossings_of(word, set()), crossings_of(word, set(word))):
                self.assertIs(type(is_drawing(word, crossings)), bool)
