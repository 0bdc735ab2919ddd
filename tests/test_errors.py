"""The refusals, point 2 and the interface."""

import unittest

from drawnword.errors import DrawError, NoMove, NoRow, NotDrawn, NoText, NoWord


class Errors(unittest.TestCase):

    def test_base_stands_straight_under_value_error(self):
        self.assertEqual(DrawError.__bases__, (ValueError,))

    def test_others_stand_each_straight_under_the_base(self):
        for kind in (NotDrawn, NoMove, NoText, NoWord, NoRow):
            self.assertEqual(kind.__bases__, (DrawError,))

    def test_none_is_taken_for_another(self):
        for kind in (NoMove, NoText, NoWord, NoRow):
            for other in (NotDrawn, NoMove, NoText, NoWord, NoRow):
                self.assertEqual(issubclass(kind, other), kind is other)
        for kind in (NoMove, NoText, NoWord, NoRow):
            self.assertFalse(issubclass(NotDrawn, kind))

    def test_names(self):
        told = [kind.__name__ for kind in (DrawError, NotDrawn, NoMove, NoText, NoWord, NoRow)]
        self.assertEqual(told, ["DrawError", "NotDrawn", "NoMove", "NoText", "NoWord", "NoRow"])

    def test_not_drawn_has_why_when_made(self):
        for why in (("odd", "a"), ("pair", "a", "b"), ("ring", ["a", "b", "c"])):
            self.assertEqual(NotDrawn(why).why, why)

    def test_why_is_each_ones_own(self):
        one, other = NotDrawn(("odd", "a")), NotDrawn(("odd", "b"))
        self.assertEqual((one.why, other.why), (("odd", "a"), ("odd", "b")))

    def test_not_drawn_is_taken_by_the_base_with_its_why(self):
        for taken in (NotDrawn, DrawError, ValueError):
            with self.assertRaises(taken) as caught:
                raise NotDrawn(("odd", "a"))
            self.assertEqual(caught.exception.why, ("odd", "a"))

    def test_others_are_raised_and_taken(self):
        for kind in (DrawError, NoMove, NoText, NoWord, NoRow):
            for taken in (kind, DrawError, ValueError):
                with self.assertRaises(taken):
                    raise kind("no")
