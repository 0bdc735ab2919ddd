"""A clerk that keeps a word and answers rows of text."""

from drawnword.drawings import drawing, patches
from drawnword.errors import NoMove, NoRow
from drawnword.forms import alike, form
from drawnword.looks import looked
from drawnword.moves import curled, uncurled
from drawnword.pieces import parted
from drawnword.rings import rings
from drawnword.texts import EMPTY, read_word, show_word
from drawnword.words import is_name

MOST_FIGURES = 4


def tell_word(word):
    """The word, written."""
    return show_word(word)


def tell_why(word):
    """The kind of what is told of the word, and its names or numbers."""
    told = looked(word)
    things = told[1] if told[0] in ("sides", "ring") else told[1:]
    return " ".join([told[0]] + [str(thing) for thing in things])


def tell_form(word):
    """The numbers of the word's form."""
    return " ".join([str(number) for number in form(word)]) if word else EMPTY


def tell_patches(word):
    """How many patches the word's drawing has."""
    return str(len(patches(word, drawing(word))))


def tell_rings(word):
    """How many rings the word has."""
    return str(len(rings(word)))


def tell_pieces(word):
    """The word's pieces, each written."""
    return "; ".join([show_word(piece) for at, piece in parted(word)]) if word else EMPTY


def text_in(rest):
    """The word whose text stands behind a row's first word."""
    if not rest:
        raise NoRow("a text is missing")
    return read_word(rest)


def number_in(text):
    """The number that is written so in a row."""
    figures = 1 <= len(text) <= MOST_FIGURES and all(["0" <= sign <= "9" for sign in text])
    if not figures or (text.startswith("0") and text != "0"):
        raise NoRow("a number is not written as it must be")
    return int(text)


def name_in(text):
    """The name that is written so in a row."""
    if not is_name(text):
        raise NoRow("a name is not written as it must be")
    return text


def other_word(word, rest):
    """The word that stands in the row instead of this one."""
    return text_in(rest)


def with_curl(word, rest):
    """The word with the curl that the row tells."""
    parts = rest.split(" ")
    if len(parts) != 2:
        raise NoRow("a place and a name are asked for")
    return curled(word, number_in(parts[0]), name_in(parts[1]))


def without_curl(word, rest):
    """The word without the curl that the row tells."""
    return uncurled(word, name_in(rest))


def one_piece(word, rest):
    """The piece of the word that the row tells."""
    number = number_in(rest)
    pieces = parted(word)
    if number >= len(pieces):
        raise NoMove("the word has no such piece")
    return pieces[number][1]


QUESTIONS = {"told": tell_word, "why": tell_why, "form": tell_form, "patches": tell_patches, "rings": tell_rings,
             "pieces": tell_pieces}
CHANGES = {"word": other_word, "curl": with_curl, "uncurl": without_curl, "piece": one_piece}


class Clerk:
    """Keeps a word, at first the empty one."""

    def __init__(self):
        self.word = []

    def say(self, row):
        """The answer to a row, or a refusal that leaves the word as it stands."""
        if row in QUESTIONS:
            question = QUESTIONS[row]
            return question(self.word)
        head, blank, rest = row.partition(" ")
        if head == "alike":
            return "no" if alike(self.word, text_in(rest)) is None else "yes"
        if head not in CHANGES:
            raise NoRow("no row begins so")
        change = CHANGES[head]
        self.word = change(self.word, rest)
        return "ok"
