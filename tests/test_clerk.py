"""The clerk's rows, its answers and refusals, points 23 and 24."""

import unittest

from drawnword.clerk import Clerk
from drawnword.drawings import drawing, patches
from drawnword.errors import DrawError, NoMove, NoRow, NotDrawn, NoText, NoWord
from drawnword.forms import form
from drawnword.looks import looked
from drawnword.moves import curled
from drawnword.pieces import parted
from drawnword.rings import rings
from drawnword.texts import show_word
from tests.helper import (Dice, NOT_SO_WRITTEN, NO_WORDS, PAIR_WORDS, RING_WORDS, are_a_drawing, crossings_of,
                          first_names, read_round, renamed, set_in_by_chance, shows_no_drawing, small_words, some_names,
                          thrown_word, twice_in_a_row)

ALONE = ("told", "why", "form", "patches", "rings", "pieces")
HEADS = ALONE + ("word", "alike", "curl", "uncurl", "piece")
NO_NUMBERS = ("00", "01", "007", "0000", "-1", "-0", "+1", "12345", "00001", "10000", "x", "a", "1a", "1.", "1_0",
              "0x1", "1e1", "A", "~")
NO_NAMES = ("A", "aB", "abcdefghi", "1", "0", "a1", "a-b", "~", "_", "`", "{")
ROWS_OF_NO_FORM = (
    ["", " ", "  ", "Told", "TOLD", "tol", "tolds", "told.", "none", "ok", "yes", "sides", "help", "a a", "a", "0",
     "words a a", "wor a a", "worda a", "Word a a", "word", "word ", "alike", "alike ", "Alike a a", "alikes a a",
     "curl", "curl ", "curl 0", "curl 0 ", "curl a", "curl a 0", "curl  a", "curl 0 a b", "curl 0 a a", "curl 0 a ",
     "curl  0 a", "curl 0  a", " curl 0 a", "curl 0a", "curl0 a", "curls 0 a", "Curl 0 a", "curl a a", "curl 0 0",
     "uncurl", "uncurl ", "uncurl  ", "uncurl  a", "uncurl a ", "uncurl a a", "uncurl a b", " uncurl a", "Uncurl a",
     "uncurl 0 a", "uncurled a", "piece", "piece ", "piece  ", "piece  0", "piece 0 ", "piece 0 0", "piece 0 a",
     " piece 0", "Piece 0", "piece0", "piece 0,", "poke 0 1 a b", "unpoke 0", "is_whole", "drawing", "turns 0"]
    + [f"curl {number} a" for number in NO_NUMBERS] + [f"piece {number}" for number in NO_NUMBERS]
    + [f"curl 0 {name}" for name in NO_NAMES] + [f"uncurl {name}" for name in NO_NAMES]
    + [f"{row} " for row in ALONE] + [f" {row}" for row in ALONE] + [f"{row} now" for row in ALONE]
    + [f"{row} 0" for row in ALONE] + [f"{row}  " for row in ALONE] + [f"{row} a a" for row in ALONE]
    + [f"{row} none" for row in ALONE] + [f" {row} a a" for row in ("word", "alike")])
KEPT = ("none", "a a", "a b a b", "a b c a b c", "a b c d d a b c", "none none", "told word word told ok ok")


class ClerkTest(unittest.TestCase):

    def at_work(self, text):
        """A clerk that keeps the word written so."""
        clerk = Clerk()
        self.says(clerk, f"word {text}", "ok")
        return clerk

    def says(self, clerk, row, answer):
        told = clerk.say(row)
        self.assertIs(type(told), str)
        self.assertEqual(told, answer, row)

    def refused(self, clerk, row, kind):
        """Refused with this class and no other one, and the word stands as it stood."""
        before = clerk.say("told")
        with self.assertRaises(DrawError) as caught:
            clerk.say(row)
        self.assertIs(type(caught.exception), kind, row)
        self.assertEqual(clerk.say("told"), before, row)
        return caught.exception


class Answers(ClerkTest):

    def words(self):
        for many in range(4):
            yield from small_words(many)
        yield from [list(word) for word in PAIR_WORDS + RING_WORDS]
        yield from [thrown_word(Dice(seed), 30) for seed in (61, 62)]
        yield twice_in_a_row(29)
        yield set_in_by_chance(Dice(63), 30)[0]

    def test_at_first_the_empty_word(self):
        for row, answer in (("told", "none"), ("why", "sides"), ("form", "none"), ("patches", "2"), ("rings", "1"),
                            ("pieces", "none"), ("alike none", "yes"), ("alike a a", "no")):
            self.says(Clerk(), row, answer)
        self.refused(Clerk(), "piece 0", NoMove)
        self.refused(Clerk(), "uncurl a", NoMove)
        self.refused(Clerk(), "curl 1 a", NoMove)
        clerk = Clerk()
        self.says(clerk, "curl 0 a", "ok")
        self.says(clerk, "told", "a a")
        self.says(clerk, "word none", "ok")
        for row, answer in (("told", "none"), ("why", "sides"), ("form", "none"), ("patches", "2"), ("rings", "1"),
                            ("pieces", "none")):
            self.says(clerk, row, answer)

    def test_a_clover_by_hand(self):
        clerk = self.at_work("a b c a b c")
        self.says(clerk, "told", "a b c a b c")
        self.assertIn(clerk.say("why"), ("sides 0 0 0", "sides 1 1 1"))
        self.says(clerk, "form", "0 1 2 0 1 2")
        self.says(clerk, "patches", "5")
        self.says(clerk, "rings", "2")
        self.says(clerk, "pieces", "a b c a b c")
        self.says(clerk, "curl 2 d", "ok")
        self.says(clerk, "told", "a b d d c a b c")
        self.says(clerk, "pieces", "d d; a b c a b c")
        self.says(clerk, "patches", "6")
        self.says(clerk, "uncurl d", "ok")
        self.says(clerk, "told", "a b c a b c")
        self.says(clerk, "curl 6 e", "ok")
        self.says(clerk, "told", "a b c a b c e e")
        self.says(clerk, "piece 1", "ok")
        self.says(clerk, "told", "a b c a b c")

    def test_word_and_told(self):
        for word in self.words():
            clerk = self.at_work(show_word(word))
            self.says(clerk, "told", show_word(word))
            self.says(clerk, "word b b", "ok")
            self.says(clerk, "told", "b b")

    def test_why(self):
        kinds = set()
        for word in self.words():
            answer = self.at_work(show_word(word)).say("why")
            self.assertIs(type(answer), str)
            kind, *things = answer.split(" ")
            self.assertEqual(kind == "sides", looked(word)[0] == "sides")
            if kind == "sides":
                self.hold_sides(word, things)
            elif kind == "ring":
                self.assertTrue(shows_no_drawing(word, (kind, things)), answer)
            else:
                self.assertTrue(shows_no_drawing(word, tuple([kind] + things)), answer)
            kinds.add(kind)
        self.assertEqual(kinds, {"sides", "odd", "pair", "ring"})

    def hold_sides(self, word, things):
        """The sides told are a drawing's, as the document tells how one comes of them."""
        names = first_names(word)
        self.assertEqual(len(things), len(names))
        self.assertTrue(set(things) <= {"0", "1"})
        rights = {name for name, side in zip(names, things) if (int(side) + word.index(name)) % 2 == 0}
        self.assertTrue(are_a_drawing(word, crossings_of(word, rights)))

    def test_form(self):
        self.says(self.at_work("x y y x"), "form", "0 0 1 1")
        for word in self.words():
            answer = " ".join(str(number) for number in form(word))
            self.says(self.at_work(show_word(word)), "form", answer or "none")

    def test_alike(self):
        for word in self.words():
            clerk = self.at_work(show_word(word))
            others = [word, ["a", "a"], ["b", "a", "b", "a"], [], renamed(word)]
            others += [renamed(read_round(word, len(word) // 3, back)) for back in (False, True)]
            for other in others:
                self.says(clerk, f"alike {show_word(other)}", "yes" if form(word) == form(other) else "no")
            self.says(clerk, "told", show_word(word))

    def test_patches(self):
        for word in self.words():
            clerk = self.at_work(show_word(word))
            if looked(word)[0] == "sides":
                self.says(clerk, "patches", str(len(set(word)) + 2))
                self.assertEqual(len(patches(word, drawing(word))), len(set(word)) + 2)
            else:
                refusal = self.refused(clerk, "patches", NotDrawn)
                self.assertTrue(shows_no_drawing(word, refusal.why))

    def test_rings(self):
        self.says(self.at_work("a a"), "rings", "2")
        for word in self.words():
            self.says(self.at_work(show_word(word)), "rings", str(len(rings(word))))

    def test_pieces_and_piece(self):
        self.says(self.at_work("a b b c c a"), "pieces", "b b; c c; a a")
        self.says(self.at_work("a b a b c c"), "pieces", "c c; a b a b")
        for word in self.words():
            pieces = [show_word(piece) for at, piece in parted(word)]
            clerk = self.at_work(show_word(word))
            self.says(clerk, "pieces", "; ".join(pieces) or "none")
            for number, piece in enumerate(pieces):
                self.says(clerk, f"piece {number}", "ok")
                self.says(clerk, "told", piece)
                self.says(clerk, "pieces", piece)
                self.refused(clerk, "piece 1", NoMove)
                self.says(clerk, f"word {show_word(word)}", "ok")
            for number in (len(pieces), len(pieces) + 1, 9999):
                self.refused(clerk, f"piece {number}", NoMove)

    def test_piece_by_two_figures(self):
        names = some_names(30)
        clerk = self.at_work(" ".join(name for name in names for both in range(2)))
        self.says(clerk, "piece 29", "ok")
        self.says(clerk, "told", f"{names[29]} {names[29]}")

    def test_curl_and_uncurl(self):
        for word in self.words():
            for at in (0, 1, len(word) // 2, len(word)):
                clerk = self.at_work(show_word(word))
                if len(set(word)) < 30 and at <= len(word):
                    self.says(clerk, f"curl {at} zzzz", "ok")
                    self.says(clerk, "told", show_word(curled(word, at, "zzzz")))
                    self.says(clerk, "uncurl zzzz", "ok")
                    self.says(clerk, "told", show_word(word))
                else:
                    self.refused(clerk, f"curl {at} zzzz", NoMove)

    def test_uncurl_round_the_end(self):
        clerk = self.at_work("a b c b c a")
        self.refused(clerk, "uncurl b", NoMove)
        self.says(clerk, "uncurl a", "ok")
        self.says(clerk, "told", "b c b c")

    def test_names_that_look_like_the_rows_own_words(self):
        for name in HEADS + ("none", "sides", "odd", "pair", "ring", "ok", "yes", "no"):
            clerk = Clerk()
            self.says(clerk, f"word {name} {name}", "ok")
            self.says(clerk, "told", f"{name} {name}")
            self.says(clerk, "pieces", f"{name} {name}")
            self.says(clerk, f"alike {name} {name}", "yes")
            self.says(clerk, "alike none", "no")
            self.says(clerk, f"uncurl {name}", "ok")
            self.says(clerk, "told", "none")
            self.says(clerk, f"curl 0 {name}", "ok")
            self.says(clerk, f"curl 1 {name}x", "ok")
            self.says(clerk, "told", f"{name} {name}x {name}x {name}")
            self.says(clerk, "piece 1", "ok")
            self.says(clerk, "told", f"{name} {name}")
            if name != "none":
                self.refused(clerk, f"word {name}", NoWord)
            self.says(clerk, f"word {name} a {name} a", "ok")
            self.assertIn(clerk.say("why"), (f"odd {name}", "odd a"))

    def test_a_word_of_these_names(self):
        names = list(HEADS) + ["none", "sides", "ok", "yes"]
        clerk = self.at_work(" ".join(names + names))
        self.says(clerk, "told", " ".join(names + names))
        self.says(clerk, "pieces", " ".join(names + names))
        self.assertIn(clerk.say("why"), ("sides" + " 0" * 15, "sides" + " 1" * 15))
        self.says(clerk, "patches", "17")


class Refusals(ClerkTest):

    def test_rows_of_no_form(self):
        for text in KEPT:
            clerk = self.at_work(text)
            for row in ROWS_OF_NO_FORM:
                self.refused(clerk, row, NoRow)
            self.says(clerk, "told", text)

    def test_every_sign_ahead_and_behind(self):
        clerk = self.at_work("a a")
        for number in range(32, 127):
            sign = chr(number)
            if sign != "%":
                for row in ALONE:
                    self.refused(clerk, sign + row, NoRow)
                    self.refused(clerk, row + sign, NoRow)
                self.refused(clerk, f"{sign}curl 0 b", NoRow)
                if not "a" <= sign <= "z":
                    self.refused(clerk, f"curl 0 b{sign}", NoRow)
                    self.refused(clerk, f"curl 0 {sign}b", NoRow)
                    self.refused(clerk, f"uncurl a{sign}", NoRow)
                    self.refused(clerk, f"word a a{sign}", NoText)
                    self.refused(clerk, f"alike {sign}a a", NoText)
                if not "0" <= sign <= "9":
                    self.refused(clerk, f"curl {sign} b", NoRow)
                    self.refused(clerk, f"curl 1{sign} b", NoRow)
                    self.refused(clerk, f"piece {sign}", NoRow)
                    self.refused(clerk, f"piece {sign}0", NoRow)
                    self.refused(clerk, f"piece 1{sign}", NoRow)

    def test_texts_not_so_written(self):
        for kept in KEPT:
            clerk = self.at_work(kept)
            for text in NOT_SO_WRITTEN:
                # With nothing behind, or just one blank, the row has no text at all.
                for head in ("word", "alike"):
                    self.refused(clerk, f"{head} {text}", NoText if text else NoRow)
            for row in ("word  ", "word  a a", "word a  a", "word a a ", "alike  ", "alike  a a", "alike a  a"):
                self.refused(clerk, row, NoText)

    def test_no_words(self):
        for kept in KEPT:
            clerk = self.at_work(kept)
            for text in NO_WORDS:
                self.refused(clerk, f"word {text}", NoWord)
                self.refused(clerk, f"alike {text}", NoWord)
        clerk = self.at_work("a a")
        for many in (31, 40):
            self.refused(clerk, f"word {show_word(twice_in_a_row(many))}", NoWord)
            self.refused(clerk, f"alike {show_word(twice_in_a_row(many))}", NoWord)

    def test_not_so_written_is_said_ahead_of_no_word(self):
        clerk = self.at_work("a a")
        for text in ("a ", " a", "a  b", "a B", "a a a A", "a abcdefghi"):
            self.refused(clerk, f"word {text}", NoText)
            self.refused(clerk, f"alike {text}", NoText)

    def test_no_row_is_said_ahead_of_no_move(self):
        clerk = self.at_work("a a")
        for row in ("curl 9999 A", "curl 99999 a", "curl 7 a b", "curl 03 a", "piece 99999", "piece 01", "uncurl B"):
            self.refused(clerk, row, NoRow)

    def test_numbers_of_up_to_four_figures(self):
        clerk = self.at_work("a a")
        for number in (3, 10, 99, 100, 999, 1000, 9999):
            self.refused(clerk, f"curl {number} b", NoMove)
            self.refused(clerk, f"piece {number}", NoMove)
        self.says(self.at_work("a b a b c c d d e e f f"), "curl 10 z", "ok")

    def test_curls_that_cannot_be_put_in_or_taken_out(self):
        clerk = self.at_work("a b a b")
        for row in ("curl 0 a", "curl 4 b", "curl 5 c", "uncurl a", "uncurl b", "uncurl c"):
            self.refused(clerk, row, NoMove)
        full = self.at_work(show_word(twice_in_a_row(30)))
        self.refused(full, "curl 0 z", NoMove)
        self.refused(full, "curl 60 z", NoMove)

    def test_refused_ones_leave_all_answers(self):
        for text in KEPT:
            clerk, other = self.at_work(text), self.at_work(text)
            for row in ("word a", "word a  a", "word", "curl 9999 z", "curl 0 Z", "uncurl zz", "piece 77", "no"):
                with self.assertRaises(DrawError):
                    clerk.say(row)
            for row in ("told", "form", "rings", "pieces", "alike a a", "alike none"):
                self.assertEqual(clerk.say(row), other.say(row))

    def test_not_drawn_bears_its_why(self):
        clerk = self.at_work("a b a b")
        self.assertIn(self.refused(clerk, "patches", NotDrawn).why, (("odd", "a"), ("odd", "b")))
        ring = self.at_work(" ".join(RING_WORDS[0]))
        why = self.refused(ring, "patches", NotDrawn).why
        why[1].clear()
        again = self.refused(ring, "patches", NotDrawn).why
        self.assertTrue(shows_no_drawing(list(RING_WORDS[0]), again))
        self.says(ring, "told", " ".join(RING_WORDS[0]))

    def test_rows_of_two_thousand_signs_and_somewhat_more(self):
        clerk = self.at_work("a a")
        self.refused(clerk, "x" * 2000, NoRow)
        self.refused(clerk, "told" + " " * 1996, NoRow)
        self.refused(clerk, "word " + "a" * 1995, NoText)
        self.refused(clerk, "word " + "a " * 997 + "a", NoWord)
        self.refused(clerk, "word " + "a " * 1100 + "a", NoWord)
        self.refused(clerk, "curl " + "1" * 1990 + " b", NoRow)
        self.refused(clerk, "piece " + "1" * 1990, NoRow)


class TwoClerks(ClerkTest):

    def test_by_turns(self):
        one, other = Clerk(), Clerk()
        self.says(one, "word a b c a b c", "ok")
        self.says(other, "told", "none")
        self.says(other, "curl 0 z", "ok")
        self.says(one, "told", "a b c a b c")
        self.says(one, "curl 3 d", "ok")
        self.says(other, "told", "z z")
        self.says(other, "alike a a", "yes")
        self.says(one, "alike a a", "no")
        self.refused(other, "piece 1", NoMove)
        self.says(one, "piece 1", "ok")
        self.says(other, "uncurl z", "ok")
        self.says(one, "told", "a b c a b c")
        self.says(other, "patches", "2")
        self.says(one, "patches", "5")
        self.says(Clerk(), "told", "none")

    def test_many_rows_by_turns_as_by_one_alone(self):
        rows = ["curl 0 a", "curl 1 b", "told", "pieces", "curl 9 c", "why x", "curl 4 c", "told", "rings", "patches",
                "piece 1", "told", "word a b a b", "told", "word a", "form", "uncurl a", "word none", "told"]
        alone = Clerk()
        wanted = [self.answer(alone, row) for row in rows]
        one, other = Clerk(), Clerk()
        told, behind = [], []
        for at in range(len(rows) + 3):
            if at < len(rows):
                told.append(self.answer(one, rows[at]))
            if at >= 3:
                behind.append(self.answer(other, rows[at - 3]))
        self.assertEqual(told, wanted)
        self.assertEqual(behind, wanted)

    def answer(self, clerk, row):
        try:
            return clerk.say(row)
        except DrawError as refusal:
            return type(refusal)
