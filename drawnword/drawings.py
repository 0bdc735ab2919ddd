"""Drawings: the order of the ends at each crossing, and the patches between."""

from drawnword.errors import NotDrawn
from drawnword.looks import looked
from drawnword.rounds import rounds
from drawnword.words import names_of, standings


def drawing(word):
    """Crossings that are a drawing of the word; NotDrawn where it has none."""
    told = looked(word)
    if told[0] != "sides":
        raise NotDrawn(told)
    return [(name, ends_by_side(word, name, side)) for name, side in zip(names_of(word), told[1])]


def ends_by_side(word, name, side):
    """The four ends at the name, in the order that its side asks for."""
    first, second = standings(word, name)
    if (side + first) % 2 == 0:
        return [2 * first, 2 * second, 2 * first + 1, 2 * second + 1]
    return [2 * first, 2 * second + 1, 2 * first + 1, 2 * second]


def patches(word, crossings):
    """The walks round the patches, each from its least walker on, sorted."""
    if not word:
        return [[], []]
    ahead = ends_ahead(crossings)
    size = len(word)
    return rounds([walker_by(size, ahead[end_of(size, walker)]) for walker in range(2 * size)])


def ends_ahead(crossings):
    """Each end with the one that stands ahead of it at its crossing."""
    ahead = {}
    for name, ends in crossings:
        for at, end in enumerate(ends):
            # Ahead of the first one stands the last, as Python counts places.
            ahead[end] = ends[at - 1]
    return ahead


def end_of(size, walker):
    """The end by which the walker comes to a crossing."""
    stretch = walker // 2
    if walker % 2 == 1:
        return 2 * stretch
    return 2 * ((stretch + 1) % size) + 1


def walker_by(size, end):
    """The walker who leaves a crossing by the end."""
    standing = end // 2
    if end % 2 == 0:
        return 2 * standing
    return 2 * ((standing - 1) % size) + 1


def is_drawing(word, crossings):
    """Whether there are two patches more than names."""
    return len(patches(word, crossings)) == len(crossings) + 2
