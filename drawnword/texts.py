"""Words written as texts, and read."""

from drawnword.errors import NoText, NoWord
from drawnword.words import is_name, is_word

# A name may be so called too, but by itself it is no word: a name stands twice.
EMPTY = "none"


def show_word(word):
    """The names with one blank between."""
    return " ".join(word) if word else EMPTY


def read_word(text):
    """The word that is written so; NoText, or NoWord where the names are no word."""
    if text == EMPTY:
        return []
    names = text.split(" ")
    if not all([is_name(name) for name in names]):
        raise NoText("the text is not names with one blank between")
    if not is_word(names):
        raise NoWord("a name stands not just twice, or there are too many names")
    return names
