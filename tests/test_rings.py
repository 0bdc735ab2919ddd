"""Rings, point 15."""

import unittest

from drawnword.rings import rings
from tests.helper import (Dice, PAIR_WORDS, RING_WORDS, even_words, line_words, read_round, renamed, small_words,
                          some_names, thrown_even_word, thrown_word, twice_in_a_row)


def partner_of(word, at):
    return [other for other in range(len(word)) if other != at and word[other] == word[at]][0]


def stepped(word):
    """The rings, stretch by stretch."""
    unwalked = set(range(len(word)))
    told = []
    while unwalked:
        stretch = min(unwalked)
        ring = []
        while stretch in unwalked:
            unwalked.discard(stretch)
            ring.append(stretch)
            stretch = partner_of(word, stretch + 1 if stretch + 1 < len(word) else 0)
        told.append(ring)
    return told


class Rings(unittest.TestCase):

    def hold(self, word):
        told = rings(word)
        self.assertIs(type(told), list)
        self.assertTrue(all(type(ring) is list and ring for ring in told))
        self.assertTrue(all(type(stretch) is int for ring in told for stretch in ring))
        self.assertEqual(told, stepped(word), word)
        self.assertEqual(told, sorted(told))
        self.assertTrue(all(ring[0] == min(ring) for ring in told))
        self.assertEqual(sorted(stretch for ring in told for stretch in ring), list(range(len(word))))
        self.assertEqual((len(told) + len(word) // 2) % 2, 1)

    def test_empty(self):
        self.assertEqual(rings([]), [[]])

    def test_by_hand(self):
        self.assertEqual(rings(["a", "a"]), [[0], [1]])
        self.assertEqual(rings(list("abab")), [[0, 3, 2, 1]])
        self.assertEqual(rings(list("abba")), [[0, 2], [1], [3]])
        self.assertEqual(rings(list("aabb")), [[0], [1, 3], [2]])
        self.assertEqual(rings(list("abcabc")), [[0, 4, 2], [1, 5, 3]])
        self.assertEqual(rings(list("abcacb")), [[0, 5, 3, 2], [1, 4]])

    def test_every_word_of_up_to_six_names(self):
        for many in range(1, 7):
            for word in small_words(many):
                self.hold(word)

    def test_words_without_a_drawing(self):
        for text in PAIR_WORDS + RING_WORDS:
            for start in range(len(text)):
                for back in (False, True):
                    self.hold(read_round(list(text), start, back))

    def test_thrown_words(self):
        dice = Dice(71)
        for many in range(1, 31):
            for k in range(4):
                self.hold(thrown_word(dice, many))
                self.hold(thrown_even_word(dice, many))

    def test_words_of_lines(self):
        dice = Dice(72)
        for corners in range(5, 18):
            for word in line_words(dice, 4, corners):
                if word:
                    self.hold(word)

    def test_rows(self):
        for many in range(1, 31):
            row = some_names(many)
            self.hold(row + row)
            self.hold(row + row[::-1])
            self.hold([name for name in row for k in range(2)])
            self.assertEqual(len(rings(row + row)), 2 if many % 2 else 1)
            self.assertEqual(len(rings(row + row[::-1])), many + 1)

    def test_names_do_not_count(self):
        for word in even_words(5):
            self.assertEqual(rings(word), rings(renamed(word)))

    def test_more_than_thirty_names(self):
        self.hold(twice_in_a_row(35))
