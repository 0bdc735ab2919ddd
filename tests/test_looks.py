"""What no drawing has, point 8, and what point 3 says of the three things."""

import unittest
from itertools import combinations, permutations, product

from drawnword.looks import looked
from tests.helper import (Dice, LETTERS, PAIR_WORDS, RING_WORDS, even_step, even_words, first_names, is_odd, is_pair,
                          is_ring, line_word, line_words, mates_of, patch_count, read_round, renamed, set_in,
                          shows_no_drawing, small_words, star_points, thrown_even_word, thrown_word,
                          twice_in_a_row)


def are_sides(mates, sides):
    names = list(mates)
    side = dict(zip(names, sides))
    return (len(sides) == len(names) and not any(is_odd(mates, name) for name in names)
            and not any(is_pair(mates, one, other) for one in names for other in names)
            and all((side[one] != side[other]) == even_step(mates, one, other)
                    for one in names for other in mates[one]))


def any_of_the_three(mates):
    names = list(mates)
    return (any(is_odd(mates, name) for name in names)
            or any(is_pair(mates, one, other) for one, other in combinations(names, 2))
            or any(is_ring(mates, list(ring)) for many in range(3, len(names) + 1)
                   for ring in permutations(names, many) if ring[0] == min(ring)))


class Looks(unittest.TestCase):

    def hold(self, word):
        told = looked(word)
        mates = mates_of(word)
        self.assertIs(type(told), tuple)
        self.assertIn(told[0], ("odd", "pair", "ring", "sides"))
        if told[0] == "sides":
            self.assertEqual(len(told), 2)
            self.assertIs(type(told[1]), list)
            self.assertTrue(all(type(side) is int and side in (0, 1) for side in told[1]))
            self.assertEqual(list(mates), first_names(word))
            self.assertTrue(are_sides(mates, told[1]), (word, told))
        else:
            self.assertTrue(shows_no_drawing(word, told), (word, told))
        return told[0]

    def hold_drawn(self, word):
        self.assertEqual(self.hold(word), "sides", word)

    def hold_not_drawn(self, word):
        self.assertNotEqual(self.hold(word), "sides", word)


class SmallWords(Looks):

    def test_empty(self):
        self.assertEqual(looked([]), ("sides", []))

    def test_by_hand(self):
        self.assertEqual(self.hold(list("aa")), "sides")
        self.assertEqual(self.hold(list("abba")), "sides")
        self.assertEqual(self.hold(list("abab")), "odd")
        self.assertEqual(self.hold(list("abcabc")), "sides")
        self.assertEqual(looked(list("abcabc"))[1] in ([0, 0, 0], [1, 1, 1]), True)
        self.assertEqual(self.hold(list("abcadcbd")), "sides")

    def test_unlike_sides(self):
        kinds = {len(set(looked(word)[1])) for word in even_words(4) if looked(word)[0] == "sides"}
        self.assertIn(2, kinds)

    def test_each_answer_holds(self):
        kinds = {}
        for many in range(7):
            for word in small_words(many):
                kind = self.hold(word)
                kinds[kind] = kinds.get(kind, 0) + 1
        self.assertEqual(sum(kinds.values()), 1 + 1 + 3 + 15 + 105 + 945 + 10395)
        self.assertEqual(kinds["sides"], 1 + 1 + 2 + 6 + 24 + 113 + 592)

    def test_sides_just_where_none_of_the_three_is(self):
        words = [word for many in range(6) for word in small_words(many)] + list(even_words(6))
        for word in words:
            mates = mates_of(word)
            drawn = looked(word)[0] == "sides"
            self.assertEqual(drawn, not any_of_the_three(mates), word)
            choices = product((0, 1), repeat=len(mates))
            self.assertEqual(drawn, any(are_sides(mates, sides) for sides in choices), word)

    def test_sides_just_where_some_crossings_are_a_drawing(self):
        for many in range(1, 6):
            for word in small_words(many):
                names = first_names(word)
                picks = [pick for size in range(many + 1) for pick in combinations(names, size)]
                drawn = any(patch_count(word, pick) == many + 2 for pick in picks)
                self.assertEqual(looked(word)[0] == "sides", drawn, word)

    def test_every_word_without_an_odd_name(self):
        kinds = {}
        for many in (7, 8):
            for word in even_words(many):
                kind = self.hold(word)
                kinds[kind] = kinds.get(kind, 0) + 1
        self.assertEqual(kinds, {"sides": 3356 + 20192, "pair": 1642 + 19550, "ring": 42 + 578})


class LargeWords(Looks):

    def test_thrown_words(self):
        dice = Dice(21)
        for many in range(31):
            for k in range(4):
                self.hold(thrown_word(dice, many))
                self.hold(thrown_even_word(dice, many))

    def test_words_of_thrown_lines(self):
        dice = Dice(22)
        longest = 0
        for corners in range(3, 19):
            for word in line_words(dice, 12, corners):
                longest = max(longest, len(word))
                self.hold_drawn(word)
                self.hold_drawn(renamed(read_round(word, len(word) // 3, True)) if word else [])
        self.assertGreater(longest, 50)

    def test_words_of_stars(self):
        for corners, step in ((5, 2), (7, 2), (7, 3), (8, 3), (9, 2), (9, 4), (11, 2), (11, 3), (13, 3), (15, 2)):
            word = line_word(star_points(corners, step))
            self.assertIsNotNone(word)
            self.assertEqual(len(word) // 2, corners * (step - 1))
            self.hold_drawn(word)

    def test_a_line_with_two_names_changed_over(self):
        dice = Dice(23)
        kinds = set()
        for corners in range(6, 16):
            for word in line_words(dice, 12, corners):
                for k in range(4 if word else 0):
                    one, other = dice.throw(len(word)), dice.throw(len(word))
                    fresh = list(word)
                    fresh[one], fresh[other] = fresh[other], fresh[one]
                    kinds.add(self.hold(fresh))
        self.assertIn("sides", kinds)
        self.assertGreater(len(kinds), 1)

    def test_curls(self):
        dice = Dice(24)
        for many in range(1, 31):
            word = []
            for k in range(many):
                word = set_in(word, dice.throw(len(word) + 1), ["c" + LETTERS[k // 26] + LETTERS[k % 26]] * 2)
            self.hold_drawn(word)

    def test_odd_rows_twice(self):
        for many in range(1, 30, 2):
            self.hold_drawn(twice_in_a_row(many))

    def test_even_rows_twice(self):
        for many in range(2, 31, 2):
            self.assertEqual(self.hold(twice_in_a_row(many)), "odd")

    def test_drawn_parts_set_in_at_any_place(self):
        dice = Dice(25)
        hosts = [[], ["a", "a"], list("abcabc"), list("abcadcbd")] + line_words(dice, 3, 9)
        for host in hosts:
            for part in (["q", "q"], twice_in_a_row(3), twice_in_a_row(5), twice_in_a_row(7)):
                for at in range(len(host) + 1):
                    self.hold_drawn(set_in(host, at, part))

    def test_drawn_parts_set_in_into_one_another_up_to_thirty_names(self):
        dice = Dice(26)
        for k in range(40):
            word = []
            for first in "klmn":
                word = set_in(word, dice.throw(len(word) + 1), twice_in_a_row(3 + 2 * dice.throw(3), first))
            self.hold_drawn(word)
            self.hold_drawn(read_round(word, dice.throw(len(word)), True))

    def test_two_or_four_names_twice_in_a_row_set_in_anywhere(self):
        dice = Dice(27)
        hosts = ([list(word) for many in range(4) for word in small_words(many)] + line_words(dice, 3, 9)
                 + [thrown_word(dice, 26), thrown_even_word(dice, 26), twice_in_a_row(25, "k")])
        for host in hosts:
            for part in (twice_in_a_row(2), twice_in_a_row(4)):
                for at in range(len(host) + 1):
                    self.hold_not_drawn(set_in(host, at, part))

    def test_pairs_set_in_anywhere(self):
        self.part_alone_shows(PAIR_WORDS, "pair", 28)

    def test_rings_set_in_anywhere(self):
        self.part_alone_shows(RING_WORDS, "ring", 29)

    def part_alone_shows(self, texts, kind, seed):
        dice = Dice(seed)
        hosts = [[], twice_in_a_row(3), twice_in_a_row(21)] + line_words(dice, 3, 10)
        for text in texts:
            part = list(text)
            for host in hosts:
                for at in range(len(host) + 1):
                    word = set_in(host, at, part)
                    self.assertEqual(self.hold(word), kind)
                    self.assertEqual(self.hold(renamed(read_round(word, dice.throw(len(word)), True))), kind)

    def test_every_reading_of_a_word_that_a_ring_shows(self):
        for text in RING_WORDS:
            for start in range(len(text)):
                for back in (False, True):
                    self.assertEqual(self.hold(read_round(list(text), start, back)), "ring")
