"""Moves: curls and pairs of crossings, put into a word and taken out of it."""

from drawnword.drawings import end_of, patches
from drawnword.errors import NoMove
from drawnword.words import is_word, standings


def curled(word, at, name):
    """The word with the name put in twice ahead of the standing, or at the end."""
    if not 0 <= at <= len(word):
        raise NoMove("there is no such place in the word")
    return still_word(word[:at] + [name, name] + word[at:])


def still_word(some):
    """The list itself; NoMove where what was put in makes it no word."""
    # A text that is no name, one that stood there already and a thirty-first all show here.
    if not is_word(some):
        raise NoMove("this cannot be put into the word")
    return some


def uncurled(word, name):
    """The word without a name whose two standings are side by side."""
    places = standings(word, name)
    if not places or not side_by_side(len(word), places[0], places[1]):
        raise NoMove("the name does not stand in the word as a curl")
    return without(word, [name])


def side_by_side(size, low, high):
    """Whether two standings of a word of this size are side by side, the last and the first too."""
    return high - low in (1, size - 1)


def without(word, gone):
    """The word without some names, the others in their order."""
    return [name for name in word if name not in gone]


def poked(word, crossings, one, other, first, second):
    """The word with a pair of crossings put in by two walkers of one patch."""
    if one // 2 == other // 2 or not of_one_patch(patches(word, crossings), one, other):
        raise NoMove("these are no two walkers of one patch and of two stretches")
    added = {one // 2: in_the_pens_way(one, first, second), other // 2: in_the_pens_way(other, second, first)}
    told = []
    for stretch, name in enumerate(word):
        told.append(name)
        told.extend(added.get(stretch, []))
    return still_word(told)


def of_one_patch(walks, one, other):
    """Whether both walkers are in one of the walks."""
    return any([one in walk and other in walk for walk in walks])


def in_the_pens_way(walker, near, far):
    """The two names that the walker comes by, in the order in which the pen comes by them."""
    return [near, far] if walker % 2 == 0 else [far, near]


def unpoked(word, crossings, patch):
    """The word without the two names at the ends of the patch's two walkers."""
    walks = patches(word, crossings)
    # A number below 0 would be counted from the end.
    if not 0 <= patch < len(walks) or len(walks[patch]) != 2:
        raise NoMove("there is no such patch with two walkers")
    gone = [word[end_of(len(word), walker) // 2] for walker in walks[patch]]
    if gone[0] == gone[1]:
        raise NoMove("both walkers of the patch come to one name")
    return without(word, gone)
