"""What the tests share: words to try, and counts made without the program."""

from fractions import Fraction
from itertools import permutations

LETTERS = "abcdefghijklmnopqrstuvwxyz"


class Dice:
    """Numbers that look thrown but are the same at each run."""

    def __init__(self, seed):
        self.state = seed

    def throw(self, many):
        self.state = (self.state * 6364136223846793005 + 1442695040888963407) % 2**64
        return (self.state >> 33) % many

    def shuffled(self, things):
        rest = list(things)
        out = []
        while rest:
            out.append(rest.pop(self.throw(len(rest))))
        return out


def some_names(many):
    """Different names, of one to eight letters; sorted they stand in another order."""
    return [(LETTERS[(7 * k) % 26] * (1 + k % 7) + (LETTERS[k // 26] if k >= 26 else ""))
            for k in range(many)]


def thrown_word(dice, many):
    return dice.shuffled(some_names(many) * 2)


def thrown_even_word(dice, many):
    """A word each name of which has an even and an odd standing."""
    evens = some_names(many)
    odds = dice.shuffled(evens)
    return [name for both in zip(evens, odds) for name in both]


def matchings(free):
    if not free:
        yield []
    for k in range(1, len(free)):
        for rest in matchings(free[1:k] + free[k + 1:]):
            yield [(free[0], free[k])] + rest


def small_words(many):
    """Every word of so many names, but for the names."""
    for matching in matchings(list(range(2 * many))):
        word = [""] * (2 * many)
        for k, (low, high) in enumerate(matching):
            word[low] = word[high] = LETTERS[k]
        yield word


def even_words(many):
    """Every word of so many names each of which has an even and an odd standing."""
    for places in permutations(range(many)):
        word = [""] * (2 * many)
        for k, place in enumerate(places):
            word[2 * k] = word[2 * place + 1] = LETTERS[k]
        yield word


def twice_in_a_row(many, first="r"):
    row = [first + LETTERS[k // 26] + LETTERS[k % 26] for k in range(many)]
    return row + row


def set_in(word, at, part):
    return word[:at] + part + word[at:]


def read_round(word, start, back):
    """A reading, by counting round the word."""
    step = -1 if back else 1
    return [word[(start + step * k) % len(word)] for k in range(len(word))]


def counted(names):
    """The numbers of a list of names, by counting what is ahead."""
    return [len(set(names[:names.index(name)])) for name in names]


def renamed(word):
    """The word with other names, none of which it has."""
    fresh = {name: "z" + LETTERS[k // 26] + LETTERS[k % 26]
             for k, name in enumerate(sorted(set(word), reverse=True))}
    assert not set(word) & set(fresh.values())
    return [fresh[name] for name in word]


def first_names(word):
    return sorted(set(word), key=word.index)


def both_standings(word, name):
    low = word.index(name)
    return low, word.index(name, low + 1)


def mates_of(word):
    """Of each name the set of those crossed with it, by their standings."""
    places = {name: both_standings(word, name) for name in set(word)}
    mates = {name: set() for name in first_names(word)}
    for one, (low, high) in places.items():
        for other, (left, right) in places.items():
            if one != other and (low < left < high) != (low < right < high):
                mates[one].add(other)
    return mates


def patch_count(word, from_right):
    """How many patches there are where the second time is from the right hand at these names."""
    size = len(word)
    around = {}
    for name in set(word):
        i, j = both_standings(word, name)
        right = [2 * i, 2 * j, 2 * i + 1, 2 * j + 1]
        left = [2 * i, 2 * j + 1, 2 * i + 1, 2 * j]
        around[name] = right if name in from_right else left
    unwalked = set(range(2 * size))
    many = 0
    while unwalked:
        many += 1
        walker = min(unwalked)
        while walker in unwalked:
            unwalked.discard(walker)
            stretch = walker // 2
            end = 2 * stretch if walker % 2 else 2 * ((stretch + 1) % size) + 1
            ends = around[word[end // 2]]
            out = ends[ends.index(end) - 1]
            walker = out if out % 2 == 0 else 2 * ((out // 2 - 1) % size) + 1
    return many


def side_of(a, b, c):
    return (b[0] - a[0]) * (c[1] - a[1]) - (b[1] - a[1]) * (c[0] - a[0])


def line_word(points):
    """The word of the closed line through the points; None where it is not plain."""
    size = len(points)
    legs = [(points[k], points[(k + 1) % size]) for k in range(size)]
    if any(side_of(points[a], points[b], points[c]) == 0
           for a in range(size) for b in range(a) for c in range(b)):
        return None
    stops = []
    for k in range(size):
        for m in range(k):
            (a, b), (c, d) = legs[k], legs[m]
            if {a, b} & {c, d}:
                continue
            from_c, from_d = side_of(a, b, c), side_of(a, b, d)
            from_a, from_b = side_of(c, d, a), side_of(c, d, b)
            if from_c * from_d < 0 and from_a * from_b < 0:
                name = "x" + LETTERS[k] + LETTERS[m]
                stops.append((k, Fraction(from_a, from_a - from_b), name))
                stops.append((m, Fraction(from_c, from_c - from_d), name))
    if len({stop[:2] for stop in stops}) < len(stops):
        return None
    return [name for leg, share, name in sorted(stops)]


def line_words(dice, many, corners):
    """Words of closed lines of so many corners, with at most thirty names."""
    words = []
    while len(words) < many:
        word = line_word([(dice.throw(10007), dice.throw(10009)) for k in range(corners)])
        if word is not None and len(word) <= 60:
            words.append(word)
    return words


def star_points(corners, step):
    """The corners of a star of so many points, each the step-th from the last one."""
    # Points of a line that bends one way cross as those of a circle do, but never three at one place here.
    ring = [(k, 3 ** k) for k in range(corners)]
    return [ring[(k * step) % corners] for k in range(corners)]
