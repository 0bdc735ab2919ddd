"""Curls and pairs of crossings, points 19, 20 and 21, and what point 3 says of them."""

import unittest

from drawnword.drawings import drawing, patches
from drawnword.errors import DrawError, NoMove
from drawnword.looks import looked
from drawnword.moves import curled, poked, uncurled, unpoked
from tests.helper import (Dice, PAIR_WORDS, RING_WORDS, are_a_drawing, both_standings, crossings_of, every_drawing,
                          first_names, line_crossings, line_word, lines, other_hands, read_round, rights_of, set_in,
                          set_in_by_chance, small_words, some_names, thrown_word, twice_in_a_row, walks_round,
                          with_pair)

NO_NAMES = ("", "abcdefghi", "A", "aB", "a1", "7", "a b", " a", "a ", "a-b", "~", "none.", "{", "`", "_")
FAR = 10 ** 20


def thirty_names():
    """A word of thirty names that has drawings."""
    return set_in(twice_in_a_row(29), 5, ["q", "q"])


def small_drawings(most):
    """Every drawing of all words of up to so many names."""
    for many in range(1, most + 1):
        for word in small_words(many):
            for crossings in every_drawing(word):
                yield word, crossings


def greater_drawings():
    """Drawings of words up to thirty names, of one piece and of several."""
    dice = Dice(91)
    for most in (6, 9, 12, 20, 26, 28):
        word, rights = set_in_by_chance(dice, most)
        yield word, crossings_of(word, rights)
        yield word, other_hands(crossings_of(word, rights))
    for points in lines(dice, 6, 7):
        if line_word(points):
            yield line_word(points), line_crossings(points)
    for many in (5, 27):
        word = twice_in_a_row(many)
        yield word, crossings_of(word, set(word[0:many:2]))


def names_at_ends(word, walk):
    """The names to which the walkers come."""
    return [word[walker // 2] if walker % 2 else word[(walker // 2 + 1) % len(word)] for walker in walk]


class Moves(unittest.TestCase):

    def refused(self, deed, *given):
        with self.assertRaises(DrawError) as caught:
            deed(*given)
        self.assertIs(type(caught.exception), NoMove, given)

    def told(self, deed, *given):
        word = deed(*given)
        self.assertIs(type(word), list)
        self.assertTrue(all(type(name) is str for name in word))
        return word


class Curls(Moves):

    def words(self):
        yield []
        for many in range(1, 4):
            yield from small_words(many)
        yield from [list(word) for word in PAIR_WORDS + RING_WORDS]
        yield from [thrown_word(Dice(seed), 29) for seed in (92, 93)]
        yield twice_in_a_row(29)

    def test_by_hand(self):
        self.assertEqual(curled([], 0, "a"), ["a", "a"])
        self.assertEqual(curled(["a", "a"], 0, "b"), list("bbaa"))
        self.assertEqual(curled(["a", "a"], 1, "b"), list("abba"))
        self.assertEqual(curled(["a", "a"], 2, "b"), list("aabb"))
        self.assertEqual(curled(["a", "a"], 1, "abcdefgh"), ["a", "abcdefgh", "abcdefgh", "a"])

    def test_ahead_of_each_standing_and_at_the_end(self):
        for word in self.words():
            for at in range(len(word) + 1):
                more = self.told(curled, word, at, "zz")
                self.assertEqual(more, set_in(word, at, ["zz", "zz"]))
                self.assertEqual(self.told(uncurled, more, "zz"), word)

    def test_numbers_that_are_no_place(self):
        for word in self.words():
            size = len(word)
            for at in (-1, -2, -size - 1, -size, -FAR, size + 1, size + 2, 2 * size + 7, FAR):
                if at:
                    self.refused(curled, word, at, "zz")

    def test_texts_that_are_no_names(self):
        for word in ([], ["a", "a"], list("abcabc"), twice_in_a_row(29), thirty_names()):
            for name in NO_NAMES:
                self.refused(curled, word, 0, name)
                self.refused(curled, word, len(word), name)
                self.refused(curled, word, -1, name)
                self.refused(uncurled, word, name)

    def test_names_that_stand_there(self):
        for word in self.words():
            for name in word:
                for at in (0, len(word) // 2, len(word)):
                    self.refused(curled, word, at, name)

    def test_thirtieth_and_thirty_first_name(self):
        word = twice_in_a_row(29)
        for at in (0, 31, 58):
            self.assertEqual(curled(word, at, "q"), set_in(word, at, ["q", "q"]))
        self.assertEqual(curled(word, 5, "q"), thirty_names())
        for at in (0, 5, 60):
            self.refused(curled, thirty_names(), at, "z")
            self.refused(curled, thrown_word(Dice(94), 30), at, "z")

    def test_taken_out_just_where_side_by_side(self):
        for many in range(1, 6):
            for word in small_words(many):
                for name in first_names(word):
                    low, high = both_standings(word, name)
                    if high == low + 1 or (low == 0 and high == len(word) - 1):
                        rest = self.told(uncurled, word, name)
                        self.assertEqual(rest, word[:low] + word[low + 1:high] + word[high + 1:])
                    else:
                        self.refused(uncurled, word, name)

    def test_taken_out_by_hand(self):
        self.assertEqual(uncurled(["a", "a"], "a"), [])
        self.assertEqual(uncurled(list("abbcac"), "b"), list("acac"))
        self.assertEqual(uncurled(list("abcbca"), "a"), list("bcbc"))
        self.assertEqual(uncurled(list("bccb"), "b"), list("cc"))
        self.refused(uncurled, list("abab"), "a")
        self.refused(uncurled, list("abab"), "b")
        # One standing of the other name lies between, whether one goes within the list or round its end.
        self.refused(uncurled, list("acabbc"), "a")
        self.refused(uncurled, list("bacacb"), "a")

    def test_names_that_do_not_stand_there(self):
        self.refused(uncurled, [], "a")
        for word in self.words():
            self.refused(uncurled, word, "zzzz")
        self.refused(uncurled, ["aa", "aa"], "a")
        self.refused(uncurled, ["a", "a"], "aa")

    def test_out_of_thirty_names_and_somewhat_more(self):
        self.assertEqual(uncurled(thirty_names(), "q"), twice_in_a_row(29))
        self.assertEqual(uncurled(["q"] + twice_in_a_row(31) + ["q"], "q"), twice_in_a_row(31))

    def test_a_curl_keeps_a_word_drawn(self):
        for many in range(1, 5):
            for word in small_words(many):
                drawn = looked(word)[0] == "sides"
                for at in range(len(word) + 1):
                    more = curled(word, at, "z")
                    self.assertEqual(looked(more)[0] == "sides", drawn)
                    if drawn:
                        self.assertTrue(are_a_drawing(more, drawing(more)))

    def test_curl_upon_curl(self):
        dice = Dice(95)
        word, grown = [], []
        for name in some_names(30):
            grown.append((name, word))
            word = curled(word, dice.throw(len(word) + 1), name)
            self.assertTrue(are_a_drawing(word, drawing(word)))
        for name, was in grown[::-1]:
            word = uncurled(word, name)
            self.assertEqual(word, was)
        self.assertEqual(word, [])


class Pairs(Moves):

    def hold(self, word, crossings, one, other):
        """Put in just where both are in one patch, of unlike stretches."""
        together = any({one, other} <= set(walk) for walk in walks_round(word, crossings))
        if not together or one // 2 == other // 2:
            self.refused(poked, word, crossings, one, other, "y", "z")
            return None
        more = self.told(poked, word, crossings, one, other, "y", "z")
        self.assertEqual(more, with_pair(word, one, other, "y", "z"), (word, crossings, one, other))
        return more

    def hold_back(self, word, crossings, more):
        """What was put in has a drawing; taken out by one that has its patch it leaves the word."""
        self.assertTrue(are_a_drawing(more, drawing(more)))
        found = 0
        for fresh in (set(), {"y"}, {"z"}, {"y", "z"}):
            drawn = crossings_of(more, rights_of(crossings) | fresh)
            if are_a_drawing(more, drawn):
                for number, walk in enumerate(walks_round(more, drawn)):
                    if len(walk) == 2 and set(names_at_ends(more, walk)) == {"y", "z"}:
                        self.assertEqual(self.told(unpoked, more, drawn, number), word)
                        found += 1
        self.assertGreater(found, 0, (word, crossings, more))

    def test_into_a_curl_by_hand(self):
        # Patches [0, 3], [1], [2]: walker 3 walks the last stretch against the pen.
        word, crossings = ["a", "a"], [("a", [0, 2, 1, 3])]
        self.assertEqual(patches(word, crossings), [[0, 3], [1], [2]])
        self.assertEqual(poked(word, crossings, 0, 3, "x", "y"), ["a", "x", "y", "a", "x", "y"])
        self.assertEqual(poked(word, crossings, 3, 0, "x", "y"), ["a", "y", "x", "a", "y", "x"])
        for one, other in ((0, 0), (3, 3), (0, 1), (1, 0), (2, 3), (0, 2), (1, 2), (1, 3), (2, 1)):
            self.refused(poked, word, crossings, one, other, "x", "y")

    def test_into_a_clover_by_hand(self):
        word = list("abcabc")
        crossings = [("a", [0, 6, 1, 7]), ("b", [2, 9, 3, 8]), ("c", [4, 10, 5, 11])]
        self.assertEqual(patches(word, crossings), [[0, 7], [1, 5, 9], [2, 10, 6], [3, 8], [4, 11]])
        self.assertEqual(poked(word, crossings, 2, 6, "x", "y"), list("abxycayxbc"))
        self.assertEqual(poked(word, crossings, 6, 2, "x", "y"), list("abyxcaxybc"))
        self.assertEqual(poked(word, crossings, 1, 9, "x", "y"), list("ayxbcabxyc"))
        self.assertEqual(poked(word, crossings, 2, 10, "x", "y"), list("abxycabcyx"))
        self.assertEqual(poked(word, crossings, 11, 4, "x", "y"), list("abcyxabcyx"))

    def test_every_two_walkers_of_every_small_drawing(self):
        put_in = 0
        for word, crossings in small_drawings(3):
            for one in range(-3, 2 * len(word) + 3):
                for other in range(-3, 2 * len(word) + 3):
                    more = self.hold(word, crossings, one, other)
                    if more is not None:
                        self.hold_back(word, crossings, more)
                        put_in += 1
        self.assertGreater(put_in, 500)

    def test_every_two_walkers_of_words_of_four_names(self):
        for word, crossings in small_drawings(4):
            if len(word) == 8:
                for one in range(-1, 17):
                    for other in range(-1, 17):
                        more = self.hold(word, crossings, one, other)
                        if more is not None and (one + other) % 5 == 0:
                            self.hold_back(word, crossings, more)

    def test_greater_drawings(self):
        dice = Dice(96)
        put_in = 0
        for word, crossings in greater_drawings():
            walks = [walk for walk in walks_round(word, crossings) if len(walk) > 1]
            for k in range(8):
                walk = walks[dice.throw(len(walks))]
                one, other = [walk[dice.throw(len(walk))] for both in range(2)]
                more = self.hold(word, crossings, one, other)
                if more is not None:
                    self.hold_back(word, crossings, more)
                    put_in += 1
                self.hold(word, crossings, dice.throw(2 * len(word)), dice.throw(2 * len(word)))
        self.assertGreater(put_in, 60)

    def test_the_last_stretch_stands_at_the_end(self):
        for word, crossings in small_drawings(3):
            size = len(word)
            for walk in walks_round(word, crossings):
                for one in walk:
                    for other in walk:
                        if one // 2 == size - 1 and other // 2 < size - 1:
                            more = poked(word, crossings, one, other, "y", "z")
                            self.assertEqual(more[-2:], ["y", "z"] if one % 2 == 0 else ["z", "y"])
                            more = poked(word, crossings, other, one, "y", "z")
                            self.assertEqual(more[-2:], ["z", "y"] if one % 2 == 0 else ["y", "z"])
                            self.assertEqual(more[0], word[0])

    def test_each_drawing_by_its_own_patches(self):
        # Which walkers are in one patch hangs on the drawing: each piece's names may be turned by themselves.
        word = list("aabb")
        drawings = every_drawing(word)
        self.assertEqual(len(drawings), 4)
        unlike = set()
        for crossings in drawings:
            could = []
            for one in range(8):
                for other in range(8):
                    if self.hold(word, crossings, one, other) is not None:
                        could.append((one, other))
            unlike.add(tuple(could))
        self.assertEqual(len(unlike), 4)

    def test_walkers_that_there_are_not(self):
        for word, crossings in list(small_drawings(2)) + list(greater_drawings())[:6]:
            most = 2 * len(word)
            for walker in range(most):
                for none in (-1, -2, walker - most, most, most + 1, most + walker, FAR, -FAR):
                    self.refused(poked, word, crossings, walker, none, "y", "z")
                    self.refused(poked, word, crossings, none, walker, "y", "z")
            self.refused(poked, word, crossings, -1, most, "y", "z")
            self.refused(poked, word, crossings, -2, -4, "y", "z")

    def test_names_that_cannot_be_put_in(self):
        word, crossings = ["a", "a"], [("a", [0, 2, 1, 3])]
        self.assertEqual(poked(word, crossings, 0, 3, "abcdefgh", "none"),
                         ["a", "abcdefgh", "none", "a", "abcdefgh", "none"])
        self.refused(poked, word, crossings, 0, 3, "x", "x")
        self.refused(poked, word, crossings, 0, 3, "a", "x")
        self.refused(poked, word, crossings, 0, 3, "x", "a")
        self.refused(poked, word, crossings, 0, 3, "a", "a")
        for name in NO_NAMES:
            self.refused(poked, word, crossings, 0, 3, name, "x")
            self.refused(poked, word, crossings, 0, 3, "x", name)
            self.refused(poked, word, crossings, 0, 3, name, name)
            self.refused(poked, word, crossings, 0, 0, name, "x")
            self.refused(poked, word, crossings, 7, 0, "x", name)

    def test_up_to_thirty_names(self):
        for many, allowed in ((27, True), (28, True), (29, False), (30, False)):
            word = twice_in_a_row(many) if many % 2 else set_in(twice_in_a_row(many - 1), 5, ["q", "q"])
            for crossings in (drawing(word), other_hands(drawing(word))):
                walk = max(walks_round(word, crossings), key=len)
                if allowed:
                    more = poked(word, crossings, walk[0], walk[1], "y", "z")
                    self.assertEqual(more, with_pair(word, walk[0], walk[1], "y", "z"))
                    self.assertTrue(are_a_drawing(more, drawing(more)))
                else:
                    self.refused(poked, word, crossings, walk[0], walk[1], "y", "z")
                    self.refused(poked, word, crossings, walk[1], walk[0], "y", "z")

    def test_into_the_empty_word(self):
        for one, other in ((0, 0), (0, 1), (0, 2), (1, 3), (-1, -3), (-1, 0), (FAR, 0)):
            self.refused(poked, [], [], one, other, "y", "z")


class Unpoked(Moves):

    def hold(self, word, crossings):
        walks = walks_round(word, crossings)
        taken = 0
        for number in range(-len(walks) - 3, len(walks) + 4):
            ends = names_at_ends(word, walks[number]) if 0 <= number < len(walks) else []
            if len(ends) == 2 and ends[0] != ends[1]:
                rest = self.told(unpoked, word, crossings, number)
                self.assertEqual(rest, [name for name in word if name not in ends], (word, crossings, number))
                self.assertTrue(are_a_drawing(rest, drawing(rest)))
                taken += 1
            else:
                self.refused(unpoked, word, crossings, number)
        return taken

    def test_by_hand(self):
        word = list("abcabc")
        crossings = [("a", [0, 6, 1, 7]), ("b", [2, 9, 3, 8]), ("c", [4, 10, 5, 11])]
        self.assertEqual(patches(word, crossings), [[0, 7], [1, 5, 9], [2, 10, 6], [3, 8], [4, 11]])
        self.assertEqual(unpoked(word, crossings, 0), ["c", "c"])
        self.assertEqual(unpoked(word, crossings, 3), ["a", "a"])
        self.assertEqual(unpoked(word, crossings, 4), ["b", "b"])
        for number in (1, 2, 5, 6, -1, -2, -5, FAR, -FAR):
            self.refused(unpoked, word, crossings, number)

    def test_two_walkers_that_come_to_one_name(self):
        self.assertEqual(patches(["a", "a"], [("a", [0, 2, 1, 3])]), [[0, 3], [1], [2]])
        for number in range(-4, 5):
            self.refused(unpoked, ["a", "a"], [("a", [0, 2, 1, 3])], number)
            self.refused(unpoked, ["a", "a"], [("a", [0, 3, 1, 2])], number)

    def test_numbers_counted_from_the_end(self):
        # The last patch here has two walkers and two names: -1 must not be taken for it.
        word = list("abcabc")
        crossings = [("a", [0, 6, 1, 7]), ("b", [2, 9, 3, 8]), ("c", [4, 10, 5, 11])]
        self.assertEqual(len(patches(word, crossings)[-1]), 2)
        self.refused(unpoked, word, crossings, -1)
        self.refused(unpoked, word, crossings, -5)

    def test_every_patch_of_every_small_drawing(self):
        taken = 0
        for word, crossings in small_drawings(4):
            taken += self.hold(word, crossings)
        self.assertGreater(taken, 100)

    def test_words_of_five_names(self):
        taken = 0
        for at, word in enumerate(small_words(5)):
            if at % 3 == 0 and looked(word)[0] == "sides":
                for crossings in every_drawing(word):
                    taken += self.hold(word, crossings)
        self.assertGreater(taken, 30)

    def test_greater_drawings(self):
        taken = 0
        for word, crossings in greater_drawings():
            taken += self.hold(word, crossings)
        for many in (29, 31):
            word = twice_in_a_row(many)
            self.assertEqual(self.hold(word, drawing(word)), many)
        self.assertGreater(taken, 30)

    def test_round_the_end_of_the_list(self):
        word = list("abcabc")
        for start in range(6):
            for back in (False, True):
                reading = read_round(word, start, back)
                for crossings in every_drawing(reading):
                    self.assertEqual(self.hold(reading, crossings), 3)

    def test_out_of_the_empty_word(self):
        for number in (-3, -2, -1, 0, 1, 2, 3, FAR):
            self.refused(unpoked, [], [], number)
