"""How often the pen turns round."""

from drawnword.colours import borders, heights


def turns(word, crossings, outside):
    """How often the pen turns round to its left hand, with the patch as the outside."""
    high = heights(word, crossings, outside)
    hands = borders(word, crossings)
    return sum(high) - sum([high[patch_between(hands, ends)] for name, ends in crossings])


def patch_between(hands, ends):
    """The patch between the two stretches that leave the crossing."""
    left, right = hands[ends[0] // 2]
    # Against the clock from where the pen leaves first is its left hand.
    return left if ends[1] % 2 == 0 else right
