"""Readings, numbers, forms and witnesses, points 6 and 7, and what point 3 says of forms."""

import unittest

from drawnword.forms import alike, form, numbers, read_from
from tests.helper import (Dice, counted, first_names, read_round, renamed, small_words, some_names,
                          thrown_word)


def least(word):
    if not word:
        return []
    return min(counted(read_round(word, start, back)) for start in range(len(word)) for back in (False, True))


class Readings(unittest.TestCase):

    def test_empty(self):
        self.assertEqual(read_from([], 0, False), [])
        self.assertEqual(read_from([], 0, True), [])

    def test_along(self):
        word = list("abcacb")
        told = ["".join(read_from(word, start, False)) for start in range(6)]
        self.assertEqual(told, ["abcacb", "bcacba", "cacbab", "acbabc", "cbabca", "babcac"])

    def test_back(self):
        word = list("abcacb")
        told = ["".join(read_from(word, start, True)) for start in range(6)]
        self.assertEqual(told, ["abcacb", "babcac", "cbabca", "acbabc", "cacbab", "bcacba"])

    def test_every_standing_of_many_words(self):
        dice = Dice(11)
        for many in range(1, 31):
            word = thrown_word(dice, many)
            for start in range(len(word)):
                for back in (False, True):
                    told = read_from(word, start, back)
                    self.assertIsInstance(told, list)
                    self.assertEqual(told, read_round(word, start, back))

    def test_numbers(self):
        self.assertEqual(numbers([]), [])
        self.assertEqual(numbers(["z", "z"]), [0, 0])
        self.assertEqual(numbers(list("cabacb")), [0, 1, 2, 1, 0, 2])
        self.assertEqual(numbers(["zz", "z", "z", "a", "zz", "a"]), [0, 1, 1, 2, 0, 2])

    def test_numbers_of_many_words(self):
        dice = Dice(12)
        for many in range(31):
            word = thrown_word(dice, many)
            told = numbers(word)
            self.assertEqual(told, counted(word))
            self.assertTrue(all(type(number) is int for number in told))

    def test_numbers_of_a_list_that_is_no_word(self):
        self.assertEqual(numbers(["b", "a", "b", "b", "c"]), [0, 1, 0, 0, 2])


class Forms(unittest.TestCase):

    def test_empty(self):
        self.assertEqual(form([]), [])

    def test_by_hand(self):
        self.assertEqual(form(["q", "q"]), [0, 0])
        self.assertEqual(form(list("abba")), [0, 0, 1, 1])
        self.assertEqual(form(list("abab")), [0, 1, 0, 1])
        self.assertEqual(form(list("abcabc")), [0, 1, 2, 0, 1, 2])
        self.assertEqual(form(list("abaccb")), [0, 0, 1, 2, 1, 2])

    def test_the_least_of_all_small_words(self):
        for many in range(6):
            for word in small_words(many):
                self.assertEqual(form(word), least(word))

    def test_the_least_of_words_up_to_thirty_names(self):
        dice = Dice(13)
        for many in range(31):
            for k in range(2):
                word = thrown_word(dice, many)
                told = form(word)
                self.assertIsInstance(told, list)
                self.assertTrue(all(type(number) is int for number in told))
                self.assertEqual(told, least(word))

    def test_the_least_where_one_way_round_alone_has_it(self):
        found = {False: 0, True: 0}
        for word in small_words(5):
            ways = {back: min(counted(read_round(word, start, back)) for start in range(10))
                    for back in (False, True)}
            if ways[False] != ways[True]:
                found[ways[True] < ways[False]] += 1
                self.assertEqual(form(word), min(ways.values()))
        self.assertTrue(found[False] and found[True])

    def test_the_same_from_every_start_way_round_and_with_other_names(self):
        dice = Dice(14)
        for many in (1, 2, 3, 5, 8, 12, 30):
            word = thrown_word(dice, many)
            told = form(word)
            for start in range(len(word)):
                for back in (False, True):
                    reading = read_round(word, start, back)
                    self.assertEqual(form(reading), told)
                    self.assertEqual(form(renamed(reading)), told)

    def test_a_form_is_its_own_form(self):
        names = some_names(30)
        dice = Dice(15)
        for many in range(31):
            told = form(thrown_word(dice, many))
            self.assertEqual(form([names[number] for number in told]), told)


class Alike(unittest.TestCase):

    def hold(self, word, other, told):
        self.assertIsInstance(told, tuple)
        start, back, pairs = told
        self.assertIs(type(start), int)
        self.assertIn(back, (False, True))
        self.assertIs(type(back), bool)
        self.assertIn(start, range(max(1, len(other))))
        self.assertIsInstance(pairs, list)
        self.assertTrue(all(type(pair) is tuple and len(pair) == 2 for pair in pairs))
        self.assertEqual([one for one, fresh in pairs], first_names(word))
        table = dict(pairs)
        self.assertEqual(len(set(table.values())), len(pairs))
        reading = read_round(other, start, back)
        self.assertEqual(reading, [table[name] for name in word])

    def test_empty(self):
        self.assertEqual(alike([], []), (0, False, []))
        self.assertIs(alike([], [])[1], False)
        self.assertIs(type(alike([], [])[0]), int)

    def test_empty_and_not(self):
        self.assertIsNone(alike([], ["a", "a"]))
        self.assertIsNone(alike(["a", "a"], []))

    def test_none_just_where_the_forms_differ(self):
        for many in range(5):
            words = list(small_words(many))
            forms = [least(word) for word in words]
            for word, one in zip(words, forms):
                for other, two in zip(words, forms):
                    told = alike(word, other)
                    self.assertEqual(told is None, one != two)
                    self.assertEqual(form(word) == form(other), one == two)
                    if told is not None:
                        self.hold(word, other, told)

    def test_words_of_unlike_lengths(self):
        words = [word for many in range(4) for word in small_words(many)]
        for word in words:
            for other in words:
                if len(word) != len(other):
                    self.assertIsNone(alike(word, other))
                    self.assertNotEqual(form(word), form(other))

    def test_every_reading_with_other_names(self):
        dice = Dice(16)
        for many in (1, 2, 3, 4, 7, 11, 30):
            word = thrown_word(dice, many)
            for start in range(len(word)):
                for back in (False, True):
                    reading = read_round(word, start, back)
                    for other in (reading, renamed(reading)):
                        self.hold(word, other, alike(word, other))
                        self.hold(other, word, alike(other, word))

    def test_the_same_names_used_otherwise(self):
        self.hold(list("abba"), list("aabb"), alike(list("abba"), list("aabb")))
        self.hold(list("abcbca"), list("bcacab"), alike(list("abcbca"), list("bcacab")))
        self.assertIsNone(alike(list("abab"), list("aabb")))

    def test_back_alone(self):
        found = 0
        for word in small_words(5):
            along = {tuple(counted(read_round(word, start, False))) for start in range(10)}
            mirror = word[::-1]
            if tuple(counted(mirror)) not in along:
                found += 1
                told = alike(word, mirror)
                self.hold(word, mirror, told)
                self.assertIs(told[1], True)
        self.assertTrue(found)

    def test_large_words_that_differ(self):
        dice = Dice(17)
        for many in range(10, 31):
            word, other = thrown_word(dice, many), thrown_word(dice, many)
            self.assertNotEqual(least(word), least(other))
            self.assertIsNone(alike(word, other))

    def test_large_words_that_differ_by_one_change_of_places(self):
        dice = Dice(18)
        for many in range(5, 31):
            word = thrown_word(dice, many)
            at = next(k for k in range(len(word)) if word[k] != word[k - 1])
            other = list(word)
            other[at], other[at - 1] = other[at - 1], other[at]
            told = alike(word, other)
            self.assertEqual(told is None, least(word) != least(other))
            if told is not None:
                self.hold(word, other, told)
