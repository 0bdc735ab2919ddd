"""Pieces: how a word is parted, and put together again."""


def is_whole(word):
    """Whether the word is not empty and has no closed part but itself."""
    return len(word) > 0 and shortest_closed(word) == (0, len(word))


def parted(word):
    """The pieces as tuples of the standing at which each is cut off and its names."""
    pieces = []
    rest = word
    while rest:
        start, stop = shortest_closed(rest)
        pieces.append((start, rest[start:stop]))
        rest = rest[:start] + rest[stop:]
    return pieces


def together(pieces):
    """The word that was parted so."""
    word = []
    for at, piece in reversed(pieces):
        word = word[:at] + piece + word[at:]
    return word


def shortest_closed(word):
    """Where the shortest closed part, of several the first, starts and stops."""
    # Each of its names stands in it twice, so its size is even.
    for size in range(2, len(word), 2):
        for start in range(len(word) - size + 1):
            if is_closed(word[start:start + size]):
                return (start, start + size)
    return (0, len(word))


def is_closed(part):
    """Whether each name of this part of a word stands in it twice."""
    # No name stands more than twice in a word, so the count alone tells it.
    return len(part) == 2 * len(set(part))
