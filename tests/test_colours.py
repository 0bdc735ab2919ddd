"""Hands, colours, heights, over and under, points 12, 13 and 14."""

import unittest

from drawnword.colours import borders, by_turns, colours, heights
from drawnword.drawings import drawing
from drawnword.errors import NotDrawn
from drawnword.looks import looked
from tests.helper import (Dice, PAIR_WORDS, RING_WORDS, both_standings, crossings_of, even_words, every_drawing,
                          first_names, line_crossings, line_outside, line_word, lines, other_hands, rounds_at_left,
                          set_in_by_chance, shows_no_drawing, small_words, some_names, star_points,
                          thrown_even_word, thrown_word, twice_in_a_row, walks_round)


def numbers_alone(told):
    return all(type(number) is int for number in told)


class Hands(unittest.TestCase):

    def hold(self, word, crossings):
        walks = walks_round(word, crossings)
        hands = [tuple(number for walker in (2 * k, 2 * k + 1) for number, walk in enumerate(walks) if walker in walk)
                 for k in range(len(word))]
        self.hold_borders(borders(word, crossings), hands)
        self.hold_colours(colours(word, crossings), walks, hands)
        for outside in range(len(walks)):
            self.hold_heights(heights(word, crossings, outside), outside, walks, hands)

    def hold_borders(self, told, hands):
        self.assertIs(type(told), list)
        self.assertEqual(told, hands)
        for row in told:
            self.assertIs(type(row), tuple)
            self.assertTrue(numbers_alone(row))
            self.assertEqual(len(row), 2)
            self.assertNotEqual(row[0], row[1])

    def hold_colours(self, told, walks, hands):
        self.assertIs(type(told), list)
        self.assertEqual(len(told), len(walks))
        self.assertTrue(numbers_alone(told))
        self.assertTrue(set(told) <= {0, 1})
        self.assertEqual([told[number] for number, walk in enumerate(walks) if 0 in walk], [0])
        for left, right in hands:
            self.assertNotEqual(told[left], told[right])

    def hold_heights(self, told, outside, walks, hands):
        self.assertIs(type(told), list)
        self.assertEqual(len(told), len(walks))
        self.assertTrue(numbers_alone(told))
        self.assertEqual(told[outside], 0)
        for left, right in hands:
            self.assertEqual(told[left], told[right] + 1)

    def test_empty(self):
        self.assertEqual(borders([], []), [])
        self.assertEqual(colours([], []), [0, 1])
        self.assertEqual(heights([], [], 0), [0, -1])
        self.assertEqual(heights([], [], 1), [1, 0])
        for told in (colours([], []), heights([], [], 0), heights([], [], 1)):
            self.assertTrue(numbers_alone(told))

    def test_one_curl_by_hand(self):
        word, crossings = ["a", "a"], [("a", [0, 2, 1, 3])]
        self.assertEqual(borders(word, crossings), [(0, 1), (2, 0)])
        self.assertEqual(colours(word, crossings), [0, 1, 1])
        self.assertEqual([heights(word, crossings, patch) for patch in range(3)],
                         [[0, -1, 1], [1, 0, 2], [-1, -2, 0]])
        crossings = other_hands(crossings)
        self.assertEqual(borders(word, crossings), [(0, 1), (1, 2)])
        self.assertEqual(colours(word, crossings), [0, 1, 0])
        self.assertEqual([heights(word, crossings, patch) for patch in range(3)],
                         [[0, -1, -2], [1, 0, -1], [2, 1, 0]])

    def test_every_drawing_of_every_word_of_up_to_five_names(self):
        found = 0
        for many in range(1, 6):
            for word in small_words(many):
                for crossings in every_drawing(word):
                    found += 1
                    self.hold(word, crossings)
        self.assertGreater(found, 1000)

    def test_words_of_six_names_and_all_hands_changed(self):
        for word in even_words(6):
            if looked(word)[0] == "sides":
                crossings = drawing(word)
                self.hold(word, crossings)
                self.hold(word, other_hands(crossings))

    def test_parts_set_in_each_with_either_hands(self):
        dice = Dice(61)
        for k in range(25):
            word, rights = set_in_by_chance(dice, 30)
            crossings = crossings_of(word, rights)
            self.hold(word, crossings)
            self.hold(word, other_hands(crossings))
            self.hold(word, drawing(word))

    def test_stars_and_rows(self):
        words = [line_word(star_points(corners, step)) for corners, step in ((5, 2), (7, 3), (9, 4), (11, 3), (15, 2))]
        for word in words + [twice_in_a_row(many) for many in (1, 3, 5, 7, 29)]:
            self.hold(word, drawing(word))
            self.hold(word, other_hands(drawing(word)))

    def test_lines_as_they_are_drawn(self):
        dice = Dice(62)
        for corners in range(4, 17):
            for points in lines(dice, 3, corners):
                word, crossings = line_word(points), line_crossings(points)
                if word:
                    self.hold(word, crossings)
                    self.hold(word, other_hands(crossings))

    def test_heights_are_how_often_a_drawn_line_goes_round(self):
        dice = Dice(63)
        stars = [star_points(corners, step) for corners, step in ((5, 2), (7, 3), (8, 3), (9, 4), (11, 3))]
        for points in stars + [points for corners in range(4, 16) for points in lines(dice, 3, corners)]:
            for way in (points, points[::-1]):
                if line_word(way):
                    self.hold_rounds(way)

    def hold_rounds(self, points):
        word, crossings = line_word(points), line_crossings(points)
        stretch, at_right = line_outside(points)
        hands = borders(word, crossings)
        told = heights(word, crossings, hands[stretch][1 if at_right else 0])
        for k in range(len(word)):
            self.assertEqual(told[hands[k][0]], rounds_at_left(points, k))

    def test_deep_curls(self):
        row = some_names(30)
        word = row + row[::-1]
        for rights in (set(), set(row), set(row[:20]), set(row[::2])):
            self.hold(word, crossings_of(word, rights))

    def test_more_than_thirty_names(self):
        word = twice_in_a_row(35)
        self.hold(word, drawing(word))


class ByTurns(unittest.TestCase):

    def hold(self, word):
        told = by_turns(word)
        self.assertIs(type(told), list)
        self.assertEqual([row[0] for row in told], first_names(word))
        for row in told:
            self.assertIs(type(row), tuple)
            name, over, under = row
            self.assertTrue(numbers_alone((over, under)))
            self.assertEqual({over, under}, set(both_standings(word, name)))
            self.assertEqual((over % 2, under % 2), (0, 1))

    def hold_refused(self, word):
        with self.assertRaises(NotDrawn) as caught:
            by_turns(word)
        self.assertIs(type(caught.exception), NotDrawn)
        self.assertTrue(shows_no_drawing(word, caught.exception.why))

    def test_empty(self):
        self.assertEqual(by_turns([]), [])

    def test_by_hand(self):
        self.assertEqual(by_turns(["a", "a"]), [("a", 0, 1)])
        self.assertEqual(by_turns(list("abba")), [("a", 0, 3), ("b", 2, 1)])
        self.assertEqual(by_turns(list("abcabc")), [("a", 0, 3), ("b", 4, 1), ("c", 2, 5)])

    def test_every_small_word(self):
        for many in range(6):
            for word in small_words(many):
                if looked(word)[0] == "sides":
                    self.hold(word)
                else:
                    self.hold_refused(word)

    def test_even_words_that_have_no_drawing(self):
        refused = 0
        for word in even_words(7):
            if looked(word)[0] == "sides":
                self.hold(word)
            else:
                refused += 1
                self.hold_refused(word)
        self.assertEqual(refused, 1642 + 42)
        for text in PAIR_WORDS + RING_WORDS:
            self.hold_refused(list(text))

    def test_large_words(self):
        dice = Dice(64)
        for k in range(40):
            self.hold(set_in_by_chance(dice, 30)[0])
        for many in range(20, 31):
            for word in (thrown_word(dice, many), thrown_even_word(dice, many)):
                if looked(word)[0] == "sides":
                    self.hold(word)
                else:
                    self.hold_refused(word)
