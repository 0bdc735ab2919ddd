"""Pieces, points 17 and 18, and what point 3 says of them."""

import unittest

from drawnword.pieces import is_whole, parted, together
from tests.helper import (Dice, PAIR_WORDS, RING_WORDS, even_words, line_words, mates_of, read_round, renamed, set_in,
                          set_in_by_chance, small_words, some_names, thrown_even_word, thrown_word, twice_in_a_row)


def closed_parts(word):
    """Every closed part as its size and its beginning, looked for row by row."""
    found = []
    for start in range(len(word)):
        for stop in range(start + 1, len(word) + 1):
            part = word[start:stop]
            if all(part.count(name) == 2 for name in part):
                found.append((stop - start, start))
    return found


def cut_off(word):
    """The pieces, as the document tells them step by step."""
    told = []
    while word:
        shorter = [part for part in closed_parts(word) if part[0] < len(word)]
        if not shorter:
            told.append((0, word))
            break
        size, start = min(shorter)
        told.append((start, word[start:start + size]))
        word = word[:start] + word[start + size:]
    return told


def led_to(mates, name):
    """The names to which a row of names leads from this one, each crossed with the next."""
    reached, waiting = {name}, [name]
    while waiting:
        fresh = mates[waiting.pop()] - reached
        reached |= fresh
        waiting += fresh
    return reached


def thrown_words():
    dice = Dice(81)
    for many in list(range(1, 12)) + [29, 30]:
        for k in range(4):
            yield thrown_word(dice, many)
            yield thrown_even_word(dice, many)
            yield set_in_by_chance(dice, max(5, many))[0]


def nested(many):
    names = some_names(many)
    return names + names[::-1]


class Whole(unittest.TestCase):

    def hold(self, word):
        told = is_whole(word)
        self.assertIs(type(told), bool)
        self.assertEqual(told, closed_parts(word) == [(len(word), 0)], word)
        return told

    def test_empty_is_not_whole(self):
        self.assertIs(is_whole([]), False)

    def test_by_hand(self):
        for word in ("aa", "abab", "abcabc", "abcadcbd", "abacbc", "abcacb"):
            self.assertIs(is_whole(list(word)), True, word)
        for word in ("aabb", "abba", "abbacc", "ababcc", "ccabab", "abccab", "abcbca", "abcabcdd"):
            self.assertIs(is_whole(list(word)), False, word)

    def test_a_part_must_lie_within_the_list(self):
        # Round the end the two standings of a are side by side; within the list just b and c are closed off.
        self.assertIs(is_whole(list("abcbca")), False)
        self.assertEqual(parted(list("abcbca")), [(1, list("bcbc")), (0, ["a", "a"])])

    def test_every_small_word(self):
        found = {False: 0, True: 0}
        for many in range(1, 6):
            for word in small_words(many):
                found[self.hold(word)] += 1
        # It is known how many chord rows of 1, 2, 3 .. chords hang together: 1, 1, 4, 27, 248.
        self.assertEqual(found, {True: 281, False: 1069 - 281})

    def test_words_of_six_names(self):
        for at, word in enumerate(small_words(6)):
            if at % 5 == 0:
                self.hold(word)

    def test_thrown_words(self):
        found = {self.hold(word) for word in thrown_words()}
        self.assertEqual(found, {False, True})

    def test_words_of_one_part_and_many(self):
        for many in (1, 2, 3, 29, 30):
            self.assertIs(is_whole(twice_in_a_row(many)), True)
        for many in (2, 3, 29, 30):
            self.assertIs(is_whole(nested(many)), False)

    def test_somewhat_beyond_thirty_names(self):
        self.assertIs(is_whole(twice_in_a_row(33)), True)
        self.assertIs(is_whole(nested(33)), False)


class Parted(unittest.TestCase):

    def hold(self, word):
        told = parted(word)
        self.assertIs(type(told), list)
        for part in told:
            self.assertIs(type(part), tuple)
            self.assertEqual(len(part), 2)
            self.assertIs(type(part[0]), int)
            self.assertIs(type(part[1]), list)
            self.assertEqual(parted(part[1]), [(0, part[1])])
            self.assertIs(is_whole(part[1]), True)
        self.assertEqual(told, cut_off(word), word)
        back = together(told)
        self.assertIs(type(back), list)
        self.assertEqual(back, word)
        return told

    def hold_names(self, word):
        """One piece just where a row of names leads from one to the other."""
        mates = mates_of(word)
        pieces = [set(piece) for at, piece in parted(word)]
        self.assertEqual(sum(len(piece) for piece in pieces), len(mates))
        for piece in pieces:
            for name in piece:
                self.assertEqual(led_to(mates, name), piece, word)

    def test_empty(self):
        self.assertEqual(parted([]), [])
        self.assertEqual(together([]), [])

    def test_whole_words_stand_alone(self):
        for word in (list("aa"), list("abcabc"), twice_in_a_row(30), list(RING_WORDS[0])):
            self.assertEqual(parted(word), [(0, word)])
            self.assertEqual(together([(0, word)]), word)

    def test_shortest_first_by_hand(self):
        self.assertEqual(parted(list("ababcc")), [(4, ["c", "c"]), (0, list("abab"))])
        self.assertEqual(parted(list("ababcdecde")), [(0, list("abab")), (0, list("cdecde"))])
        self.assertEqual(parted(list("abcabcdede")), [(6, list("dede")), (0, list("abcabc"))])

    def test_of_several_the_first_by_hand(self):
        self.assertEqual(parted(list("aabb")), [(0, ["a", "a"]), (0, ["b", "b"])])
        self.assertEqual(parted(list("aabbcc")), [(0, ["a", "a"]), (0, ["b", "b"]), (0, ["c", "c"])])
        self.assertEqual(parted(list("abbcca")), [(1, ["b", "b"]), (1, ["c", "c"]), (0, ["a", "a"])])

    def test_standings_are_of_what_is_left_by_hand(self):
        self.assertEqual(parted(list("abba")), [(1, ["b", "b"]), (0, ["a", "a"])])
        self.assertEqual(parted(list("abccabdd")), [(2, ["c", "c"]), (4, ["d", "d"]), (0, list("abab"))])
        self.assertEqual(parted(list("abcddcba")),
                         [(3, ["d", "d"]), (2, ["c", "c"]), (1, ["b", "b"]), (0, ["a", "a"])])

    def test_put_together_by_hand(self):
        self.assertEqual(together([(2, ["c", "c"]), (4, ["d", "d"]), (0, list("abab"))]), list("abccabdd"))
        self.assertEqual(together([(1, ["b", "b"]), (0, ["a", "a"])]), list("abba"))

    def test_every_small_word(self):
        for many in range(6):
            for word in small_words(many):
                self.hold(word)
                self.hold_names(word)

    def test_even_words_of_six_names(self):
        for word in even_words(6):
            self.hold(word)
            self.hold_names(word)

    def test_thrown_words(self):
        most = 0
        for word in thrown_words():
            most = max(most, len(self.hold(word)))
            self.hold_names(word)
        self.assertGreater(most, 4)

    def test_words_that_no_line_has_and_words_of_lines(self):
        words = [list(word) for word in PAIR_WORDS + RING_WORDS] + line_words(Dice(82), 12, 9)
        for word in words:
            self.hold(word)
            self.hold_names(word)
            for at in range(0, len(word) + 1, 3):
                more = set_in(renamed(word), at, word)
                if len(more) <= 60:
                    self.hold(more)
                    self.hold_names(more)

    def test_thirty_curls_each_way(self):
        names = some_names(30)
        row = [name for name in names for both in range(2)]
        self.assertEqual(self.hold(row), [(0, [name, name]) for name in names])
        inner = names[::-1]
        self.assertEqual(self.hold(nested(30)), [(29 - k, [name, name]) for k, name in enumerate(inner)])

    def test_other_starts(self):
        word = set_in_by_chance(Dice(83), 20)[0]
        for start in range(len(word)):
            for back in (False, True):
                reading = read_round(word, start, back)
                self.hold(reading)
                self.assertEqual(sorted(sorted(piece) for at, piece in parted(reading)),
                                 sorted(sorted(piece) for at, piece in parted(word)))

    def test_somewhat_beyond_thirty_names(self):
        for word in (nested(33), twice_in_a_row(33), set_in(twice_in_a_row(20), 7, twice_in_a_row(15, "s"))):
            self.hold(word)
