"""Names, words, standings, and which names are crossed."""

LONGEST_NAME = 8
MOST_NAMES = 30


def is_name(text):
    """Whether the text is one to eight small letters."""
    return 1 <= len(text) <= LONGEST_NAME and all(["a" <= sign <= "z" for sign in text])


def is_word(some):
    """Whether the texts are names, at most thirty different ones, each just twice."""
    counts = {}
    for text in some:
        if not is_name(text):
            return False
        counts[text] = counts.get(text, 0) + 1
    return len(counts) <= MOST_NAMES and all([many == 2 for many in counts.values()])


def names_of(word):
    """The different names, in the order in which they come first."""
    return list({name: True for name in word})


def standings(word, name):
    """The places at which the name stands, the lower one first."""
    return [at for at, other in enumerate(word) if other == name]


def partner(word, at):
    """The other standing of the name that stands at this one."""
    low, high = standings(word, word[at])
    return high if at == low else low


def between(word, name):
    """What stands between the two standings of the name."""
    low, high = standings(word, name)
    return word[low + 1:high]


def crossed(word, one, other):
    """Whether just one standing of the other name is between the two of the one."""
    return between(word, one).count(other) == 1


def crossed_with(word, name):
    """The names crossed with this one, in the order of the word's names."""
    inside = between(word, name)
    return [other for other in names_of(word) if inside.count(other) == 1]
