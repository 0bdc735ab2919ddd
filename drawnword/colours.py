"""What lies at the two hands of the line: patches, their colours and heights; over and under."""

from drawnword.drawings import drawing, patches


def borders(word, crossings):
    """For each stretch the numbers of the patches at its left hand and at its right hand."""
    places = {}
    for number, walk in enumerate(patches(word, crossings)):
        for walker in walk:
            places[walker] = number
    return [(places[2 * stretch], places[2 * stretch + 1]) for stretch in range(len(word))]


def colours(word, crossings):
    """0 or 1 for each patch, unlike at the two hands of each stretch."""
    # Heights at two hands differ by one; walker 0 is the least, so its patch is the first.
    return [height % 2 for height in heights(word, crossings, 0)]


def heights(word, crossings, outside):
    """A height for each patch: 0 outside, one more at a left hand than at the right hand."""
    # The empty word has no stretch, but its line has patch 0 at the left hand, patch 1 at the right.
    hands = borders(word, crossings) if word else [(0, 1)]
    found = heights_along(hands)
    return [found[patch] - found[outside] for patch in range(len(found))]


def heights_along(hands):
    """Heights that are right one to another, found from patch to patch across the line."""
    found = {hands[0][0]: 0}
    waiting = hands
    while waiting:
        for left, right in waiting:
            if left in found:
                found[right] = found[left] - 1
            elif right in found:
                found[left] = found[right] + 1
        waiting = [(left, right) for left, right in waiting if left not in found or right not in found]
    return found


def by_turns(word):
    """Each name with the standing at which the line goes over and that at which it goes under."""
    return [over_and_under(name, ends[0] // 2, ends[1] // 2) for name, ends in drawing(word)]


def over_and_under(name, one, other):
    """The name with its even standing and its odd one."""
    return (name, one, other) if one % 2 == 0 else (name, other, one)
