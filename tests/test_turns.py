"""How often the pen turns round, point 16."""

import unittest

from drawnword.drawings import drawing
from drawnword.looks import looked
from drawnword.turns import turns
from tests.helper import (Dice, both_standings, crossings_of, even_words, every_drawing, line_crossings, line_outside,
                          line_turns, line_word, lines, other_hands, rights_of, rights_read, set_in_by_chance,
                          small_words, some_names, star_points, twice_in_a_row, walks_round)


def seen_from(word, crossings, stretch, at_right):
    """The turns by the hands at the crossings, read from the stretch's end on."""
    start = (stretch + 1) % len(word)
    rights = rights_read(word, rights_of(crossings), start, False)
    lefts = set(word) - rights
    return (1 if at_right else -1) + len(lefts) - len(rights)


def by_heights(word, crossings, walks, outside):
    """The turns by the heights of the patches, less those between two stretches that leave a crossing."""
    place = {walker: number for number, walk in enumerate(walks) for walker in walk}
    high = {outside: 0}
    while len(high) < len(walks):
        for stretch in range(len(word)):
            left, right = place[2 * stretch], place[2 * stretch + 1]
            if right in high:
                high[left] = high[right] + 1
            elif left in high:
                high[right] = high[left] - 1
    total = sum(high.values())
    for name, ends in crossings:
        i, j = both_standings(word, name)
        # Two ends that leave stand side by side: the patch between has the earlier one's left hand.
        leaving = 2 * i if ends[(ends.index(2 * i) + 1) % 4] == 2 * j else 2 * j
        total -= high[place[leaving]]
    return total


class Turns(unittest.TestCase):

    def hold(self, word, crossings):
        walks = walks_round(word, crossings)
        told = []
        for outside, walk in enumerate(walks):
            many = turns(word, crossings, outside)
            self.assertIs(type(many), int)
            self.assertEqual(many, by_heights(word, crossings, walks, outside), (word, crossings, outside))
            for walker in walk:
                seen = seen_from(word, crossings, walker // 2, walker % 2 == 1)
                self.assertEqual(many, seen, (word, crossings, outside, walker))
            told.append(many)
        return told

    def test_empty(self):
        self.assertEqual(turns([], [], 0), -1)
        self.assertEqual(turns([], [], 1), 1)
        self.assertTrue(all(type(turns([], [], patch)) is int for patch in (0, 1)))

    def test_one_curl_by_hand(self):
        # The walks are [0, 3], [1], [2]: with the first as the outside it is an eight, else a curl within.
        self.assertEqual(self.hold(["a", "a"], [("a", [0, 2, 1, 3])]), [0, 2, -2])
        self.assertEqual(self.hold(["a", "a"], [("a", [0, 3, 1, 2])]), [-2, 0, 2])

    def test_a_clover_by_hand(self):
        word = list("abcabc")
        for crossings in every_drawing(word):
            lengths = [len(walk) for walk in walks_round(word, crossings)]
            # Outside of three stretches the pen goes round twice; within a leaf it makes an eight and a round.
            told = sorted(zip(lengths, self.hold(word, crossings)))
            self.assertEqual(told, [(2, 0), (2, 0), (2, 0), (3, -2), (3, 2)])

    def test_every_drawing_of_every_word_of_up_to_five_names(self):
        found = 0
        for many in range(1, 6):
            for word in small_words(many):
                for crossings in every_drawing(word):
                    found += 1
                    self.hold(word, crossings)
        self.assertGreater(found, 1000)

    def test_words_of_six_names_and_all_hands_changed(self):
        for word in even_words(6):
            if looked(word)[0] == "sides":
                crossings = drawing(word)
                self.hold(word, crossings)
                self.hold(word, other_hands(crossings))

    def test_parts_set_in_each_with_either_hands(self):
        dice = Dice(81)
        for k in range(25):
            word, rights = set_in_by_chance(dice, 30)
            crossings = crossings_of(word, rights)
            self.hold(word, crossings)
            self.hold(word, other_hands(crossings))
            self.hold(word, drawing(word))

    def test_rows(self):
        for many in (1, 3, 5, 7, 29):
            word = twice_in_a_row(many)
            self.hold(word, drawing(word))
            self.hold(word, other_hands(drawing(word)))
        row = some_names(30)
        for rights in (set(), set(row), set(row[:13]), set(row[::2])):
            self.hold(row + row[::-1], crossings_of(row + row[::-1], rights))

    def test_lines_as_they_are_drawn(self):
        dice = Dice(82)
        found = set()
        stars = [star_points(corners, step) for corners, step in ((5, 2), (7, 2), (7, 3), (8, 3), (9, 4), (11, 3))]
        for points in stars + [points for corners in range(3, 17) for points in lines(dice, 4, corners)]:
            for way in (points, points[::-1]):
                found.add(self.hold_line(way))
        self.assertTrue({-4, -2, -1, 0, 1, 2, 4} <= found)

    def hold_line(self, points):
        word, crossings = line_word(points), line_crossings(points)
        stretch, at_right = line_outside(points)
        if word:
            walker = 2 * (stretch % len(word)) + (1 if at_right else 0)
            outside = [walker in walk for walk in walks_round(word, crossings)].index(True)
            self.hold(word, crossings)
        else:
            outside = 1 if at_right else 0
        told = turns(word, crossings, outside)
        self.assertEqual(told, line_turns(points))
        return told

    def test_more_than_thirty_names(self):
        word = twice_in_a_row(35)
        self.hold(word, drawing(word))
