"""What shows that no closed line has a word, or the sides of its names."""

from drawnword.words import crossed_with, names_of


def looked(word):
    """One of ("odd", name), ("pair", one, other), ("ring", names), ("sides", sides)."""
    mates = {name: crossed_with(word, name) for name in names_of(word)}
    odd = odd_name(mates)
    if odd is not None:
        return ("odd", odd)
    pair = odd_pair(mates)
    if pair is not None:
        return ("pair", pair[0], pair[1])
    return sides_or_ring(mates)


def odd_name(mates):
    """A name that is crossed with an odd number of names, or None."""
    for name in mates:
        if len(mates[name]) % 2 == 1:
            return name
    return None


def evenly_shared(mates, one, other):
    """Whether an even number of names are crossed with both."""
    return len(set(mates[one]) & set(mates[other])) % 2 == 0


def odd_pair(mates):
    """Two names, not crossed, with which both an odd number are crossed, or None."""
    for one in mates:
        for other in mates:
            apart = other != one and other not in mates[one]
            if apart and not evenly_shared(mates, one, other):
                return (one, other)
    return None


def sides_or_ring(mates):
    """The sides, or the ring that shows that there are none."""
    origins = found_from(mates)
    sides = sides_along(mates, origins)
    step = wrong_step(mates, sides)
    if step is not None:
        return ("ring", ring_through(origins, step[0], step[1]))
    return ("sides", [sides[name] for name in mates])


def found_from(mates):
    """Each name with the one it is found from along crossings; None at a beginning.

    A name comes behind the one that it is found from.
    """
    origins = {}
    for beginning in mates:
        if beginning not in origins:
            origins[beginning] = None
            waiting = [beginning]
            while waiting:
                name = waiting.pop()
                fresh = [mate for mate in mates[name] if mate not in origins]
                for mate in fresh:
                    origins[mate] = name
                waiting.extend(fresh)
    return origins


def side_beside(mates, sides, name, mate):
    """The side that the mate must have, by that of a name crossed with it."""
    return 1 - sides[name] if evenly_shared(mates, name, mate) else sides[name]


def sides_along(mates, origins):
    """A side for each name, right by the one that it is found from."""
    sides = {}
    for name in origins:
        origin = origins[name]
        sides[name] = 0 if origin is None else side_beside(mates, sides, origin, name)
    return sides


def wrong_step(mates, sides):
    """Two crossed names whose sides do not fit one another, or None."""
    for name in mates:
        for mate in mates[name]:
            if side_beside(mates, sides, name, mate) != sides[mate]:
                return (name, mate)
    return None


def way_back(origins, name):
    """The names from this one back to the beginning it is found from."""
    way = [name]
    while origins[way[-1]] is not None:
        way.append(origins[way[-1]])
    return way


def ring_through(origins, one, other):
    """The ways back of both, to where they meet first, closed by the step from other to one."""
    far = way_back(origins, one)
    near = way_back(origins, other)
    # Behind where they meet both ways are the same, and no name may come twice.
    while len(far) > 1 and len(near) > 1 and far[-2] == near[-2]:
        far.pop()
        near.pop()
    return far + near[:-1][::-1]
