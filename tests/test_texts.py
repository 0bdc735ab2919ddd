"""Words written and read, point 22."""

import unittest

from drawnword.errors import DrawError, NoText, NoWord
from drawnword.texts import read_word, show_word
from tests.helper import (Dice, NOT_SO_WRITTEN, NO_WORDS, PAIR_WORDS, RING_WORDS, small_words, some_names, thrown_word,
                          twice_in_a_row)


def greatest():
    return ["abcdefg" + letter for letter in "abcdefghijklmnopqrstuvwxyz"] + ["bcdefgh" + letter for letter in "abcd"]


class Texts(unittest.TestCase):

    def refused(self, kind, text):
        with self.assertRaises(DrawError) as caught:
            read_word(text)
        self.assertIs(type(caught.exception), kind, text)

    def hold(self, word):
        text = show_word(word)
        self.assertIs(type(text), str)
        back = read_word(text)
        self.assertIs(type(back), list)
        self.assertEqual(back, word)
        return text

    def test_empty(self):
        self.assertEqual(show_word([]), "none")
        self.assertEqual(read_word("none"), [])
        self.assertIs(type(read_word("none")), list)

    def test_by_hand(self):
        self.assertEqual(show_word(["a", "a"]), "a a")
        self.assertEqual(show_word(["ab", "c", "c", "ab"]), "ab c c ab")
        self.assertEqual(read_word("ab c c ab"), ["ab", "c", "c", "ab"])
        self.assertEqual(read_word("abcdefgh abcdefgh"), ["abcdefgh", "abcdefgh"])

    def test_a_name_none(self):
        self.assertEqual(show_word(["none", "none"]), "none none")
        self.assertEqual(read_word("none none"), ["none", "none"])
        self.assertEqual(read_word("none a a none"), ["none", "a", "a", "none"])

    def test_read_back(self):
        words = [word for many in range(5) for word in small_words(many)]
        words += [list(word) for word in PAIR_WORDS + RING_WORDS]
        words += [thrown_word(Dice(seed), 30) for seed in (71, 72, 73)] + [twice_in_a_row(30)]
        for word in words:
            text = self.hold(word)
            if word:
                self.assertEqual([part for part in text.split()], word)
                self.assertEqual(len(text), sum(len(name) + 1 for name in word) - 1)

    def test_not_so_written(self):
        for text in NOT_SO_WRITTEN:
            self.refused(NoText, text)

    def test_every_sign_by_itself_and_within(self):
        for number in range(32, 127):
            sign = chr(number)
            if sign not in "% abcdefghijklmnopqrstuvwxyz":
                for text in (sign, f"{sign} {sign}", f"a{sign} a{sign}", f"a a{sign}", f"{sign}a a", f"a{sign}a"):
                    self.refused(NoText, text)

    def test_no_words(self):
        for text in NO_WORDS:
            self.refused(NoWord, text)

    def test_not_so_written_is_said_ahead_of_no_word(self):
        for text in ("a ", " a", "a  b", "a B", "a a a A", "a b c1", "a abcdefghi", "a a b b b  b"):
            self.refused(NoText, text)
        many = some_names(31)
        self.refused(NoText, " ".join(many + many) + " ")
        self.refused(NoText, " ".join(many + many + ["A"]))

    def test_thirty_names_and_more(self):
        longest = greatest() + greatest()
        self.assertEqual(len(set(longest)), 30)
        self.assertEqual(self.hold(longest), " ".join(longest))
        for many in (31, 32, 40):
            self.refused(NoWord, show_word(twice_in_a_row(many)))

    def test_two_thousand_signs_and_somewhat_more(self):
        self.refused(NoWord, "a " * 999 + "ab")
        self.refused(NoText, "a " * 1000)
        self.refused(NoText, "a" * 2000)
        self.refused(NoWord, "a " * 1100 + "a")
        self.refused(NoText, " " * 2100)

    def test_words_beyond_thirty_names_are_shown(self):
        word = twice_in_a_row(33)
        self.assertEqual(show_word(word), " ".join(word))
