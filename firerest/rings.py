"""Parents of places, the rings that they leave over, and heights."""

from firerest.leads import lead_sum
from firerest.shapes import piece_of


def forest(web):
    """Return the parent of each place, or None for the least place of a piece."""
    parents = [None] * web.size
    seen = {}
    for start in range(web.size):
        if start not in seen:
            for place, parent in parents_from(web, start):
                seen[place] = True
                parents[place] = parent
    return tuple(parents)


def parents_from(web, start):
    """Return (place, parent) for the piece of `start`, in the order of finding."""
    found = [(start, None)]
    seen = {start: True}
    at = 0
    while at < len(found):
        place = found[at][0]
        for other in web.near(place):
            if other not in seen:
                seen[other] = True
                found.append((other, place))
        at += 1
    return found


def way_up(parents, place):
    """Return the places from a place to the least one of its piece, over parents."""
    way = [place]
    while parents[way[-1]] is not None:
        way.append(parents[way[-1]])
    return way


def tree_way(parents, a, b):
    """Return the way over parents that leads from `a` to its neighbour `b`.

    Neither of them is the parent of the other one.
    """
    left = way_up(parents, a)
    right = way_up(parents, b)
    # Neighbours are found in the same round or in two rounds that follow one
    # another: so one is above the other only if it is its parent.
    while left[-2] == right[-2]:
        left.pop()
        right.pop()
    return left + right[:-1][::-1]


def basic_rings(web):
    """Return the ring that each line closes which joins no place with its parent."""
    parents = forest(web)
    found = []
    for a, b in web.lines:
        if parents[a] != b and parents[b] != a:
            found.append(tuple(tree_way(parents, a, b) + [a]))
    return tuple(found)


def ring_sums(scene):
    """Return the lead sums of the basic rings."""
    return tuple([lead_sum(scene, ring) for ring in basic_rings(scene.web)])


def heights(scene, place):
    """Return the heights of the piece of a place, or None if it has none."""
    piece = piece_of(scene.web, place)
    if uneven_ring(scene, place) is not None:
        return None
    parents = forest(scene.web)
    # The lead sum of the way up is the height of its end minus that of its start.
    found = [-lead_sum(scene, way_up(parents, other)) for other in piece]
    least = min(found)
    return tuple([height - least for height in found])


def uneven_ring(scene, place):
    """Return a ring of the piece of a place with a lead sum above 0, or None."""
    piece = piece_of(scene.web, place)
    # Every ring's lead sum is made up of those of basic rings.
    for ring in basic_rings(scene.web):
        total = lead_sum(scene, ring)
        if ring[0] in piece and total != 0:
            return ring if total > 0 else ring[::-1]
    return None
