"""The rounds that come where each number leads to another one."""


def rounds(after):
    """The rounds of the steps from k to after[k], each from its least number on, sorted."""
    told = []
    walked = set()
    # By rising starts each round is met at its least number first.
    for start in range(len(after)):
        walk = []
        at = start
        while at not in walked:
            walked.add(at)
            walk.append(at)
            at = after[at]
        if walk:
            told.append(walk)
    return told
