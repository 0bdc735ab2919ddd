"""The rings that come where each crossing is smoothed."""

from drawnword.rounds import rounds
from drawnword.words import partner


def rings(word):
    """The rings of stretches, each from its least one on, sorted."""
    if not word:
        return [[]]
    size = len(word)
    return rounds([partner(word, (stretch + 1) % size) for stretch in range(size)])
