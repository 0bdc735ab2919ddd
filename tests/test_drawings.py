"""Crossings, walkers, patches and drawings, points 9, 10 and 11, and what point 3 says of drawings."""

import unittest

from drawnword.drawings import drawing, is_drawing, patches
from drawnword.errors import DrawError, NotDrawn
from drawnword.looks import looked
from tests.helper import (Dice, LETTERS, PAIR_WORDS, RING_WORDS, are_a_drawing, crossings_of, ends_at, even_words,
                          every_crossings, every_drawing, first_names, line_crossings, line_word, line_words, lines,
                          other_hands, read_round, renamed, set_in, set_in_by_chance, shows_no_drawing, small_words,
                          some_names, thrown_crossings, thrown_even_word, thrown_word, twice_in_a_row, walks_round,
                          with_pair)


class Patches(unittest.TestCase):

    def hold(self, word, crossings):
        told = patches(word, crossings)
        self.assertIs(type(told), list)
        self.assertTrue(all(type(walk) is list for walk in told))
        self.assertTrue(all(type(walker) is int for walk in told for walker in walk))
        self.assertEqual(told, walks_round(word, crossings), (word, crossings))
        self.assertEqual(told, sorted(told))
        self.assertTrue(all(walk[0] == min(walk) for walk in told))
        self.assertEqual(sorted(walker for walk in told for walker in walk), list(range(2 * len(word))))
        drawn = is_drawing(word, crossings)
        self.assertIs(type(drawn), bool)
        self.assertEqual(drawn, len(told) == len(first_names(word)) + 2)
        return drawn

    def test_empty(self):
        self.assertEqual(patches([], []), [[], []])
        self.assertIs(is_drawing([], []), True)
        one, other = patches([], [])
        self.assertIsNot(one, other)

    def test_one_curl_by_hand(self):
        word = ["a", "a"]
        # Standing 0: out by 0, in by 1; standing 1: out by 2, in by 3. Walker 0 comes to standing 1 by end 3,
        # ahead of which stands 1: there walker 3 leaves along stretch 1, against the pen, and comes to 1 by end 2.
        self.assertEqual(patches(word, [("a", [0, 2, 1, 3])]), [[0, 3], [1], [2]])
        self.assertEqual(patches(word, [("a", [0, 3, 1, 2])]), [[0], [1, 2], [3]])
        self.assertIs(is_drawing(word, [("a", [0, 2, 1, 3])]), True)
        self.assertIs(is_drawing(word, [("a", [0, 3, 1, 2])]), True)

    def test_crossings_that_no_paper_has(self):
        word = ["a", "b", "a", "b"]
        for crossings in every_crossings(word):
            self.assertIs(is_drawing(word, crossings), False)
        clover = list("abcabc")
        drawn = [crossings for crossings in every_crossings(clover) if is_drawing(clover, crossings)]
        self.assertEqual(len(drawn), 2)
        self.assertEqual(drawn, [other_hands(drawn[1]), other_hands(drawn[0])])

    def test_every_crossings_of_every_small_word(self):
        found = {False: 0, True: 0}
        for many in range(1, 5):
            for word in small_words(many):
                for crossings in every_crossings(word):
                    found[self.hold(word, crossings)] += 1
        self.assertEqual(sum(found.values()), 2 + 12 + 120 + 1680)
        self.assertTrue(found[True] and found[False])

    def test_some_crossings_of_words_of_five_and_six_names(self):
        dice = Dice(41)
        for many in (5, 6):
            for word in small_words(many):
                if dice.throw(many - 3) == 0:
                    self.hold(word, thrown_crossings(dice, word))

    def test_thrown_crossings_of_thrown_words(self):
        dice = Dice(42)
        for many in range(1, 31):
            for k in range(3):
                for word in (thrown_word(dice, many), thrown_even_word(dice, many)):
                    crossings = thrown_crossings(dice, word)
                    self.hold(word, crossings)
                    self.hold(word, other_hands(crossings))

    def test_more_than_thirty_names(self):
        dice = Dice(43)
        word = thrown_word(dice, 36)
        self.hold(word, thrown_crossings(dice, word))

    def test_lines_as_they_are_drawn(self):
        dice = Dice(44)
        longest = 0
        for corners in range(4, 18):
            for points in lines(dice, 6, corners):
                word, crossings = line_word(points), line_crossings(points)
                longest = max(longest, len(word))
                if word:
                    self.assertTrue(self.hold(word, crossings))
        self.assertGreater(longest, 50)

    def test_one_hand_changed_in_what_cannot_be_parted(self):
        for many in (3, 5, 7, 29):
            word = twice_in_a_row(many)
            crossings = drawing(word)
            self.assertTrue(self.hold(word, crossings))
            for k in range(many):
                wrong = crossings[:k] + other_hands(crossings[k:k + 1]) + crossings[k + 1:]
                self.assertFalse(self.hold(word, wrong))


class Drawings(unittest.TestCase):

    def hold_drawn(self, word):
        told = drawing(word)
        self.assertIs(type(told), list)
        self.assertEqual([name for name, ends in told], first_names(word))
        for row in told:
            self.assertIs(type(row), tuple)
            self.assertIs(type(row[1]), list)
            self.assertTrue(all(type(end) is int for end in row[1]))
            self.assertIn(row[1], (ends_at(word, row[0], True), ends_at(word, row[0], False)))
        self.assertTrue(are_a_drawing(word, told), (word, told))
        self.assertEqual(len(patches(word, told)), len(told) + 2)
        self.assertIs(is_drawing(word, told), True)
        return told

    def hold_not_drawn(self, word):
        with self.assertRaises(DrawError) as caught:
            drawing(word)
        self.assertIs(type(caught.exception), NotDrawn)
        why = caught.exception.why
        self.assertTrue(shows_no_drawing(word, why), (word, why))
        return why[0]

    def hold(self, word):
        if looked(word)[0] == "sides":
            self.hold_drawn(word)
            return "sides"
        return self.hold_not_drawn(word)


class SmallWords(Drawings):

    def test_empty(self):
        self.assertEqual(drawing([]), [])
        self.hold_drawn([])

    def test_by_hand(self):
        self.assertIn(drawing(["a", "a"]), ([("a", [0, 2, 1, 3])], [("a", [0, 3, 1, 2])]))
        clover = [("a", [0, 6, 1, 7]), ("b", [2, 9, 3, 8]), ("c", [4, 10, 5, 11])]
        self.assertIn(drawing(list("abcabc")), (clover, other_hands(clover)))
        self.assertEqual(self.hold_not_drawn(list("abab")), "odd")

    def test_every_word_of_up_to_six_names(self):
        kinds = {}
        for many in range(7):
            for word in small_words(many):
                kind = self.hold(word)
                kinds[kind] = kinds.get(kind, 0) + 1
        self.assertEqual(kinds["sides"], 1 + 1 + 2 + 6 + 24 + 113 + 592)
        self.assertEqual(sum(kinds.values()), 1 + 1 + 3 + 15 + 105 + 945 + 10395)

    def test_every_word_of_seven_names_without_an_odd_name(self):
        kinds = {}
        for word in even_words(7):
            kind = self.hold(word)
            kinds[kind] = kinds.get(kind, 0) + 1
        self.assertEqual(kinds, {"sides": 3356, "pair": 1642, "ring": 42})

    def test_a_drawing_just_where_some_crossings_are_one(self):
        for many in range(1, 6):
            for word in small_words(many):
                some = every_drawing(word)
                if some:
                    self.assertIn(self.hold_drawn(word), some)
                else:
                    self.hold_not_drawn(word)


class LargeWords(Drawings):

    def test_thrown_words(self):
        dice = Dice(51)
        for many in range(31):
            for k in range(3):
                self.hold(thrown_word(dice, many))
                self.hold(thrown_even_word(dice, many))

    def test_words_of_lines(self):
        dice = Dice(52)
        for corners in range(3, 19):
            for word in line_words(dice, 6, corners):
                self.hold_drawn(word)

    def test_curls(self):
        dice = Dice(53)
        for many in range(1, 31):
            word = []
            for k in range(many):
                word = set_in(word, dice.throw(len(word) + 1), ["c" + LETTERS[k // 26] + LETTERS[k % 26]] * 2)
            self.hold_drawn(word)

    def test_a_row_and_back(self):
        for many in range(1, 31):
            row = some_names(many)
            self.hold_drawn(row + row[::-1])

    def test_rows_twice(self):
        for many in range(1, 31):
            if many % 2:
                self.hold_drawn(twice_in_a_row(many))
            else:
                self.assertEqual(self.hold_not_drawn(twice_in_a_row(many)), "odd")

    def test_parts_set_in_at_any_place_read_from_any_standing(self):
        hosts = [["y", "y"], twice_in_a_row(3, "k"), twice_in_a_row(5, "k"), list("xyxzyz"), list("wxyyzwxz")]
        for host in hosts:
            for part in (["q", "q"], twice_in_a_row(3), twice_in_a_row(5), twice_in_a_row(7), list("abcadcbd")):
                for at in range(len(host) + 1):
                    word = set_in(host, at, part)
                    kind = looked(host)[0]
                    for start in range(len(word)):
                        for back in (False, True):
                            self.assertEqual(self.hold(read_round(word, start, back)) == "sides", kind == "sides")

    def test_parts_set_in_into_one_another_up_to_thirty_names(self):
        dice = Dice(54)
        longest = 0
        for k in range(60):
            word, rights = set_in_by_chance(dice, 30)
            longest = max(longest, len(word))
            self.assertTrue(are_a_drawing(word, crossings_of(word, rights)))
            self.hold_drawn(word)
            self.hold_drawn(renamed(word))
        self.assertGreater(longest, 54)

    def test_pairs_of_crossings_put_in(self):
        dice = Dice(55)
        names = some_names(30)
        for host in ([names[0]] * 2, names[:3] * 2, names[:5] * 2, list("abcadcbd")):
            for k in range(6):
                word = list(host)
                fresh = [name for name in names if name not in word]
                while len(fresh) >= 2:
                    walks = walks_round(word, self.hold_drawn(word))
                    wide = [walk for walk in walks if len({walker // 2 for walker in walk}) > 1]
                    walk = wide[dice.throw(len(wide))]
                    one = walk[dice.throw(len(walk))]
                    rest = [walker for walker in walk if walker // 2 != one // 2]
                    word = with_pair(word, one, rest[dice.throw(len(rest))], fresh.pop(), fresh.pop())
                self.assertGreaterEqual(len(word), 58)
                self.hold_drawn(word)

    def test_more_than_thirty_names(self):
        self.hold_drawn(twice_in_a_row(35))
        self.hold_not_drawn(twice_in_a_row(36))

    def test_what_has_no_drawing_set_in_anywhere(self):
        dice = Dice(56)
        hosts = [[], twice_in_a_row(3), twice_in_a_row(21)] + line_words(dice, 2, 10)
        for kind, texts in (("odd", ("abab", "abcdabcd")), ("pair", PAIR_WORDS), ("ring", RING_WORDS)):
            for text in texts:
                for host in hosts:
                    for at in range(len(host) + 1):
                        word = set_in(host, at, list(text))
                        word = renamed(read_round(word, dice.throw(len(word)), dice.throw(2) == 1))
                        self.assertEqual(self.hold_not_drawn(word), kind)

    def test_why_is_each_ones_own(self):
        word = list(RING_WORDS[0])
        whys = []
        for k in range(2):
            with self.assertRaises(NotDrawn) as caught:
                drawing(word)
            whys.append(caught.exception.why)
        whys[0][1].clear()
        self.assertTrue(shows_no_drawing(word, whys[1]))
        self.hold_not_drawn(word)
