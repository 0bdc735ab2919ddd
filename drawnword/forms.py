"""Readings of a word, and the one form of all of them."""

from drawnword.words import names_of


def read_from(word, start, back):
    """The names from the standing on, all the way round, along or back."""
    if back:
        behind = start + 1
        return word[:behind][::-1] + word[behind:][::-1]
    return word[start:] + word[:start]


def numbers(word):
    """Each name told by how many different names came ahead of its first coming."""
    places = {name: at for at, name in enumerate(names_of(word))}
    return [places[name] for name in word]


def ways(word):
    """The start and the way round of every reading."""
    # The empty word has no standing, but it is read from 0 as any other.
    starts = max(1, len(word))
    return [(start, back) for start in range(starts) for back in (False, True)]


def form(word):
    """The least list of numbers of all readings."""
    return min([numbers(read_from(word, start, back)) for start, back in ways(word)])


def alike(word, other):
    """How the other word is read so that it is the word with other names; or None."""
    wanted = numbers(word)
    for start, back in ways(other):
        reading = read_from(other, start, back)
        if numbers(reading) == wanted:
            return (start, back, list(zip(names_of(word), names_of(reading))))
    return None
