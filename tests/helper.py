"""What the tests share: words to try, and counts made without the program."""

from fractions import Fraction
from itertools import permutations, product

LETTERS = "abcdefghijklmnopqrstuvwxyz"
# Neither an odd name nor an odd pair is in these: a ring alone shows them.
RING_WORDS = ("aebfcadbecfd", "abcdeafcbedf", "aabfcgdbecfdge", "aebgcadhebfcgdhf", "afbgcadhebfdgche",
              "aabfchdbeifcgdheig", "aabgchdbeifcgehdif")
PAIR_WORDS = ("abcabdecde", "aabcdbcefdef", "aabbcdecdfgefg")
# Texts that are not written as words are, and texts so written whose names are no word.
NOT_SO_WRITTEN = ("", " ", "  ", " a a", "a a ", "a  a", "a a  b b", "  a a", "a a  ", "A A", "a A", "a1 a1", "1 1",
                  "0", "abcdefghi abcdefghi", "a a abcdefghi", "a,a", "a, a", "a;a", "a a;", "a a.", "a-b a-b", "_ _",
                  "` `", "{ {", "~ ~", "[] []", "\"a\" \"a\"", "'a' 'a'", "None", "NONE", "none ", " none",
                  "none  none", "a none ", "a\\a")
NO_WORDS = ("a", "a b", "a a b", "b a a", "a a a", "a a a a", "a b a b a", "a a none", "none a a", "none none none",
            "a a b b b b", "abcdefgh", "told", "a aa", "aa a")


class Dice:
    """Numbers that look thrown but are the same at each run."""

    def __init__(self, seed):
        self.state = seed

    def throw(self, many):
        self.state = (self.state * 6364136223846793005 + 1442695040888963407) % 2**64
        return (self.state >> 33) % many

    def shuffled(self, things):
        rest = list(things)
        out = []
        while rest:
            out.append(rest.pop(self.throw(len(rest))))
        return out


def some_names(many):
    """Different names, of one to eight letters; sorted they stand in another order."""
    return [(LETTERS[(7 * k) % 26] * (1 + k % 7) + (LETTERS[k // 26] if k >= 26 else ""))
            for k in range(many)]


def thrown_word(dice, many):
    return dice.shuffled(some_names(many) * 2)


def thrown_even_word(dice, many):
    """A word each name of which has an even and an odd standing."""
    evens = some_names(many)
    odds = dice.shuffled(evens)
    return [name for both in zip(evens, odds) for name in both]


def matchings(free):
    if not free:
        yield []
    for k in range(1, len(free)):
        for rest in matchings(free[1:k] + free[k + 1:]):
            yield [(free[0], free[k])] + rest


def small_words(many):
    """Every word of so many names, but for the names."""
    for matching in matchings(list(range(2 * many))):
        word = [""] * (2 * many)
        for k, (low, high) in enumerate(matching):
            word[low] = word[high] = LETTERS[k]
        yield word


def even_words(many):
    """Every word of so many names each of which has an even and an odd standing."""
    for places in permutations(range(many)):
        word = [""] * (2 * many)
        for k, place in enumerate(places):
            word[2 * k] = word[2 * place + 1] = LETTERS[k]
        yield word


def twice_in_a_row(many, first="r"):
    row = [first + LETTERS[k // 26] + LETTERS[k % 26] for k in range(many)]
    return row + row


def set_in(word, at, part):
    return word[:at] + part + word[at:]


def read_round(word, start, back):
    """A reading, by counting round the word."""
    step = -1 if back else 1
    return [word[(start + step * k) % len(word)] for k in range(len(word))]


def counted(names):
    """The numbers of a list of names, by counting what is ahead."""
    return [len(set(names[:names.index(name)])) for name in names]


def renamed(word):
    """The word with other names, none of which it has."""
    fresh = {name: "z" + LETTERS[k // 26] + LETTERS[k % 26]
             for k, name in enumerate(sorted(set(word), reverse=True))}
    assert not set(word) & set(fresh.values())
    return [fresh[name] for name in word]


def first_names(word):
    return sorted(set(word), key=word.index)


def both_standings(word, name):
    low = word.index(name)
    return low, word.index(name, low + 1)


def mates_of(word):
    """Of each name the set of those crossed with it, by their standings."""
    places = {name: both_standings(word, name) for name in set(word)}
    mates = {name: set() for name in first_names(word)}
    for one, (low, high) in places.items():
        for other, (left, right) in places.items():
            if one != other and (low < left < high) != (low < right < high):
                mates[one].add(other)
    return mates


def even_step(mates, one, other):
    return len(mates[one] & mates[other]) % 2 == 0


def is_odd(mates, name):
    return len(mates[name]) % 2 == 1


def is_pair(mates, one, other):
    return one != other and other not in mates[one] and not even_step(mates, one, other)


def is_ring(mates, names):
    steps = list(zip(names, names[1:] + names[:1]))
    return (len(names) >= 3 and len(set(names)) == len(names)
            and all(other in mates[one] for one, other in steps)
            and sum(even_step(mates, one, other) for one, other in steps) % 2 == 1)


def shows_no_drawing(word, why):
    """Whether what is told is one of the three things, of this word, by counting."""
    mates = mates_of(word)
    if type(why) is not tuple or why[0] not in ("odd", "pair", "ring"):
        return False
    if len(why) != (3 if why[0] == "pair" else 2):
        return False
    names = why[1] if why[0] == "ring" else list(why[1:])
    if type(names) is not list or not set(names) <= set(word):
        return False
    return {"odd": is_odd, "pair": is_pair, "ring": is_ring}[why[0]](mates, *why[1:])


def ends_at(word, name, from_right):
    """The ends at a name where the second time is from the right hand, or from the left."""
    i, j = both_standings(word, name)
    return [2 * i, 2 * j, 2 * i + 1, 2 * j + 1] if from_right else [2 * i, 2 * j + 1, 2 * i + 1, 2 * j]


def crossings_of(word, from_right):
    """Crossings where the second time is from the right hand at just these names."""
    return [(name, ends_at(word, name, name in from_right)) for name in first_names(word)]


def every_crossings(word):
    names = first_names(word)
    for pick in product((False, True), repeat=len(names)):
        yield [(name, ends_at(word, name, right)) for name, right in zip(names, pick)]


def thrown_crossings(dice, word):
    return crossings_of(word, {name for name in set(word) if dice.throw(2)})


def other_hands(crossings):
    """Each name in its other order: the drawing seen from behind the paper."""
    return [(name, [ends[0], ends[3], ends[2], ends[1]]) for name, ends in crossings]


def walks_round(word, crossings):
    """The patches, walked step by step."""
    if not word:
        return [[], []]
    size = len(word)
    around = dict(crossings)
    walks = []
    unwalked = set(range(2 * size))
    while unwalked:
        walker = min(unwalked)
        walks.append([])
        while walker in unwalked:
            unwalked.discard(walker)
            walks[-1].append(walker)
            stretch, against = divmod(walker, 2)
            standing = stretch if against else (stretch + 1) % size
            end = 2 * standing if against else 2 * standing + 1
            ends = around[word[standing]]
            out = ends[(ends.index(end) + 3) % 4]
            walker = out if out % 2 == 0 else 2 * ((out // 2 - 1) % size) + 1
    return walks


def patch_count(word, from_right):
    """How many patches there are where the second time is from the right hand at these names."""
    return len(walks_round(word, crossings_of(word, from_right)))


def are_a_drawing(word, crossings):
    return len(walks_round(word, crossings)) == len(set(word)) + 2


def every_drawing(word):
    return [crossings for crossings in every_crossings(word) if are_a_drawing(word, crossings)]


def rights_of(crossings):
    """The names at which the second time is from the right hand."""
    return {name for name, ends in crossings if ends[1] % 2 == 0}


def rights_read(word, rights, start, back):
    """The names at which, so read, the second time is from the right hand."""
    read = set()
    for name in set(word):
        comings = [(start - at if back else at - start) % len(word) for at in both_standings(word, name)]
        # Read the other way round the two lines both go back: just which comes first counts.
        if (name in rights) == (comings[0] < comings[1]):
            read.add(name)
    return read


def set_in_by_chance(dice, most):
    """A word of parts that have drawings, set in at any places, and the rights of one of its drawings."""
    word, rights = [], set()
    for first in "klmnopqrstuvw":
        row = twice_in_a_row((1, 3, 5, 7)[dice.throw(4)], first)
        part = list("abcadcbd") if first == "k" else row
        if len(word) + len(part) > 2 * most:
            break
        drawings = every_drawing(part)
        rights |= rights_of(drawings[dice.throw(len(drawings))])
        word = set_in(word, dice.throw(len(word) + 1), part)
    start, back = dice.throw(len(word)), dice.throw(2) == 1
    return read_round(word, start, back), rights_read(word, rights, start, back)


def with_pair(word, one, other, first, second):
    """The word with a pair of crossings put in by two walkers."""
    added = {one // 2: [first, second][::-1 if one % 2 else 1],
             other // 2: [second, first][::-1 if other % 2 else 1]}
    return [name for at in range(len(word)) for name in [word[at]] + added.get(at, [])]


def side_of(a, b, c):
    return (b[0] - a[0]) * (c[1] - a[1]) - (b[1] - a[1]) * (c[0] - a[0])


def line_stops(points):
    """Where the closed line through the points crosses itself, along it; None where it is not plain."""
    size = len(points)
    legs = [(points[k], points[(k + 1) % size]) for k in range(size)]
    if any(side_of(points[a], points[b], points[c]) == 0
           for a in range(size) for b in range(a) for c in range(b)):
        return None
    stops = []
    for k in range(size):
        for m in range(k):
            (a, b), (c, d) = legs[k], legs[m]
            if {a, b} & {c, d}:
                continue
            from_c, from_d = side_of(a, b, c), side_of(a, b, d)
            from_a, from_b = side_of(c, d, a), side_of(c, d, b)
            if from_c * from_d < 0 and from_a * from_b < 0:
                name = "x" + LETTERS[k] + LETTERS[m]
                stops.append((k, Fraction(from_a, from_a - from_b), name))
                stops.append((m, Fraction(from_c, from_c - from_d), name))
    if len({stop[:2] for stop in stops}) < len(stops):
        return None
    return sorted(stops)


def line_word(points):
    """The word of the closed line through the points; None where it is not plain."""
    stops = line_stops(points)
    return None if stops is None else [name for leg, share, name in stops]


def leg_way(points, leg):
    """How far a leg of the line goes across and up."""
    start, stop = points[leg], points[(leg + 1) % len(points)]
    return stop[0] - start[0], stop[1] - start[1]


def line_crossings(points):
    """The crossings as the line through the points is drawn."""
    stops = line_stops(points)
    word = [name for leg, share, name in stops]
    rights = set()
    for name in set(word):
        (across, up), (far, high) = [leg_way(points, leg) for leg, share, other in stops if other == name]
        if across * high - up * far > 0:
            rights.add(name)
    return crossings_of(word, rights)


def line_outside(points):
    """The stretch at the line's lowest corner, and whether the outside is at its right hand there."""
    corner = min(range(len(points)), key=lambda k: (points[k][1], points[k][0]))
    before, behind = points[corner - 1], points[(corner + 1) % len(points)]
    ahead = [stop for stop in line_stops(points) if stop[0] < corner]
    return len(ahead) - 1, side_of(before, points[corner], behind) > 0


def rounds_at_left(points, stretch):
    """How often the line goes round a place close at the stretch's left hand, by a ray from there."""
    stops = line_stops(points)
    leg, share, name = stops[stretch]
    along = (share + min([stop[1] for stop in stops if stop[0] == leg and stop[1] > share] + [1])) / 2
    across, up = leg_way(points, leg)
    x, y = points[leg][0] + along * across, points[leg][1] + along * up
    many = 0
    for other in range(len(points)):
        (a, b), (c, d) = [(point[0] - x, point[1] - y) for point in (points[other], points[(other + 1) % len(points)])]
        before, behind = -up * b - across * a, -up * d - across * c
        if other != leg and (before > 0) != (behind > 0) and (a * d - b * c) / (behind - before) > 0:
            many += 1 if behind > 0 else -1
    return many


def line_turns(points):
    """How often the line through the points turns round, by its ways past the way to the right."""
    many = 0
    for leg in range(len(points)):
        (across, up), (far, high) = leg_way(points, leg - 1), leg_way(points, leg)
        was_up, is_up = up > 0 or up == 0 < across, high > 0 or high == 0 < far
        to_left = across * high - up * far > 0
        if was_up != is_up and to_left == is_up:
            many += 1 if to_left else -1
    return many


def lines(dice, many, corners):
    """The points of closed lines of so many corners, whose words have at most thirty names."""
    found = []
    while len(found) < many:
        points = [(dice.throw(10007), dice.throw(10009)) for k in range(corners)]
        stops = line_stops(points)
        if stops is not None and len(stops) <= 60:
            found.append(points)
    return found


def line_words(dice, many, corners):
    """Words of closed lines of so many corners, with at most thirty names."""
    return [line_word(points) for points in lines(dice, many, corners)]


def star_points(corners, step):
    """The corners of a star of so many points, each the step-th from the last one."""
    # Points of a line that bends one way cross as those of a circle do, but never three at one place here.
    ring = [(k, 3 ** k) for k in range(corners)]
    return [ring[(k * step) % corners] for k in range(corners)]
