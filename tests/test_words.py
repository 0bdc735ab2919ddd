"""Names, words, standings and crossed names, points 4 and 5."""

import unittest

from drawnword.words import crossed, crossed_with, is_name, is_word, names_of, partner
from tests.helper import (Dice, LETTERS, both_standings, first_names, mates_of, read_round, small_words,
                          some_names, thrown_word)

SIGNS = [chr(code) for code in range(32, 127)]


class Names(unittest.TestCase):

    def test_lengths(self):
        told = [is_name("a" * many) for many in range(12)]
        self.assertEqual(told, [False] + [True] * 8 + [False] * 3)

    def test_every_single_sign(self):
        for sign in SIGNS:
            self.assertIs(is_name(sign), sign in LETTERS, sign)

    def test_every_sign_at_each_place(self):
        for many in range(2, 9):
            for at in range(many):
                for sign in SIGNS:
                    text = "m" * at + sign + "m" * (many - at - 1)
                    self.assertIs(is_name(text), sign in LETTERS, text)

    def test_nine_letters_of_any_kind(self):
        for text in ("abcdefghi", "abcdefgh ", " abcdefgh", "zzzzzzzzz"):
            self.assertIs(is_name(text), False)

    def test_every_letter(self):
        for letter in LETTERS:
            self.assertIs(is_name(letter * 8), True)


class Words(unittest.TestCase):

    def test_empty(self):
        self.assertIs(is_word([]), True)

    def test_a_name_once_to_four_times(self):
        self.assertEqual([is_word(["a"] * many) for many in range(1, 5)], [False, True, False, False])

    def test_one_name_wrong_among_right_ones(self):
        for many in (1, 3, 4):
            word = ["b", "c", "b", "c"]
            for at in range(5):
                self.assertIs(is_word(word[:at] + ["a"] * many + word[at:]), False)

    def test_counts_that_make_up_for_one_another(self):
        self.assertIs(is_word(["a", "b", "b", "b"]), False)
        self.assertIs(is_word(["a", "b", "c", "c"]), False)
        self.assertIs(is_word(["b", "b", "b", "a"]), False)

    def test_a_text_that_is_no_name(self):
        for wrong in ("", "A", "aB", "1", "a1", " ", "a ", " a", "-", "abcdefghi", "a b"):
            for word in ([wrong, wrong], ["a", wrong, "a", wrong], [wrong, "a", "a", wrong], ["a", "a", wrong, wrong]):
                self.assertIs(is_word(word), False, word)

    def test_all_orders_of_two_names(self):
        for word in ("aabb", "abab", "abba", "baab", "baba", "bbaa"):
            self.assertIs(is_word(list(word)), True)

    def test_longest_names(self):
        self.assertIs(is_word(["abcdefgh", "abcdefg", "abcdefgh", "abcdefg"]), True)

    def test_up_to_thirty_names(self):
        dice = Dice(1)
        for many in range(31):
            self.assertIs(is_word(thrown_word(dice, many)), True, many)

    def test_more_than_thirty_names(self):
        dice = Dice(2)
        for many in (31, 32, 40):
            self.assertEqual(len(set(some_names(many))), many)
            self.assertIs(is_word(thrown_word(dice, many)), False, many)

    def test_thirty_names_and_a_wrong_one(self):
        word = some_names(30) * 2
        self.assertIs(is_word(word[:-1]), False)
        self.assertIs(is_word(word[:-1] + ["a"]), False)
        self.assertIs(is_word(word + [word[3]]), False)


class Standings(unittest.TestCase):

    def test_names_in_the_order_in_which_they_come_first(self):
        self.assertEqual(names_of([]), [])
        self.assertEqual(names_of(["b", "a", "a", "b"]), ["b", "a"])
        self.assertEqual(names_of(list("cabacb")), ["c", "a", "b"])
        self.assertEqual(names_of(["zz", "z", "z", "a", "zz", "a"]), ["zz", "z", "a"])

    def test_names_of_many_words(self):
        dice = Dice(3)
        for many in range(31):
            word = thrown_word(dice, many)
            told = names_of(word)
            self.assertIsInstance(told, list)
            self.assertEqual(told, first_names(word))

    def test_partner(self):
        self.assertEqual([partner(["a", "a"], at) for at in range(2)], [1, 0])
        self.assertEqual([partner(list("abcacb"), at) for at in range(6)], [3, 5, 4, 0, 2, 1])

    def test_partners_of_many_words(self):
        dice = Dice(4)
        for many in range(31):
            word = thrown_word(dice, many)
            for at, name in enumerate(word):
                told = partner(word, at)
                self.assertIs(type(told), int)
                self.assertNotEqual(told, at)
                self.assertEqual(word[told], name)
                self.assertEqual(partner(word, told), at)


class Crossed(unittest.TestCase):

    def test_two_names(self):
        for text, right in (("abab", True), ("baba", True), ("aabb", False), ("abba", False), ("baab", False),
                            ("bbaa", False)):
            word = list(text)
            self.assertIs(crossed(word, "a", "b"), right, text)
            self.assertIs(crossed(word, "b", "a"), right, text)

    def test_never_with_itself(self):
        dice = Dice(5)
        for many in range(1, 31):
            word = thrown_word(dice, many)
            for name in word:
                self.assertIs(crossed(word, name, name), False)
                self.assertNotIn(name, crossed_with(word, name))

    def test_all_small_words(self):
        for many in range(6):
            for word in small_words(many):
                self.hold(word)

    def test_words_of_none_to_thirty_names(self):
        dice = Dice(6)
        for many in range(31):
            for k in range(3):
                self.hold(thrown_word(dice, many))

    def hold(self, word):
        mates = mates_of(word)
        for one in mates:
            told = crossed_with(word, one)
            self.assertIsInstance(told, list)
            self.assertEqual(told, [name for name in first_names(word) if name in mates[one]])
            for other in mates:
                self.assertIs(crossed(word, one, other), other in mates[one])

    def test_both_ways_round_whatever_the_start(self):
        dice = Dice(7)
        for many in range(1, 13):
            word = thrown_word(dice, many)
            names = first_names(word)
            table = [[crossed(word, one, other) for other in names] for one in names]
            self.assertEqual(table, [list(row) for row in zip(*table)])
            for start in range(len(word)):
                for back in (False, True):
                    reading = read_round(word, start, back)
                    self.assertEqual([[crossed(reading, one, other) for other in names] for one in names], table)

    def test_crossed_with_in_the_words_order(self):
        self.assertEqual(crossed_with(list("zyxzyx"), "x"), ["z", "y"])
        self.assertEqual(crossed_with(list("cabcba"), "c"), ["a", "b"])
        self.assertEqual(crossed_with(list("cabbac"), "a"), [])

    def test_a_row_twice(self):
        for many in range(1, 31):
            row = some_names(many)
            for name in row:
                self.assertEqual(crossed_with(row + row, name), [other for other in row if other != name])

    def test_a_row_and_back(self):
        for many in range(1, 31):
            row = some_names(many)
            for name in row:
                self.assertEqual(crossed_with(row + row[::-1], name), [])

    def test_standings_count_the_same(self):
        word = list("abcadbdc")
        low, high = both_standings(word, "a")
        self.assertEqual((low, high), (0, 3))
        self.assertEqual(crossed_with(word, "a"), ["b", "c"])
        self.assertEqual(crossed_with(word, "d"), ["b"])
