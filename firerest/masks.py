"""Sets of places as masks: a mask has the bit `place` for each of its places.

A web has at most 60 places, so one number holds a whole set, and a few
operations on numbers do for all places what a loop would do for each.
"""


def mask_of(places):
    """Return the mask of the given places."""
    mask = 0
    for place in places:
        mask = mask | (1 << place)
    return mask


def places_of(mask):
    """Return the places of a mask, in ascending order."""
    found = []
    while mask != 0:
        lowest = mask & -mask
        found.append(lowest.bit_length() - 1)
        mask = mask ^ lowest
    return tuple(found)


def near_masks(size, lines):
    """Return, for each of `size` places, the mask of its neighbours."""
    near = [0 for _ in range(size)]
    for a, b in lines:
        near[a] = near[a] | (1 << b)
        near[b] = near[b] | (1 << a)
    return tuple(near)


def spread(near, mask):
    """Return the mask of all places that have a neighbour in `mask`."""
    found = 0
    for place in places_of(mask):
        found = found | near[place]
    return found


def flooded(near, start, allowed):
    """Return the mask of what walks inside `allowed` reach from `start`."""
    found = start
    fresh = start
    while fresh != 0:
        fresh = spread(near, fresh) & allowed & ~found
        found = found | fresh
    return found
