"""Cuts: the fewest places to take out so that what is left falls calm."""

from firerest.leads import lead_sum
from firerest.scenes import taken_out
from firerest.shares import lead_ways
from firerest.slopes import ring_nodes, slopes_or_ring
from firerest.webs import is_ring


class Cuts:
    """Places without which a scene is calm, and a tree that shows that fewer do not do."""

    def __init__(self, places, tree):
        self.places = places
        self.tree = tree


def ring_above(scene, share):
    """Return a ring whose share is above the given one, or None.

    No place occurs twice in it, except that the first one is also the last one.
    """
    ways = lead_ways(scene, tuple(range(scene.web.size)))
    _, ring = slopes_or_ring(ways, share)
    return None if ring is None else tuple(ring_nodes(ring))


def fewest_cuts(scene, share):
    """Return the fewest places that calm the scene, with a tree."""
    many = 0
    places = first_cuts(scene, share, many, 0)
    while places is None:
        many += 1
        places = first_cuts(scene, share, many, 0)
    return Cuts(places, cut_tree(scene, share, many - 1) if many > 0 else ())


def first_cuts(scene, share, many, start):
    """Return the first `many` places from `start` on that calm the scene, or None.

    No fewer places of the scene calm it.
    """
    ring = ring_above(scene, share)
    if many == 0:
        return () if ring is None else None
    # One of the places must be on the ring.
    for place in range(start, max(ring) + 1):
        rest = first_cuts(taken_out(scene, (place,)), share, many - 1, place + 1)
        if rest is not None:
            return (place,) + rest
    return None


def cut_tree(scene, share, many):
    """Return a tree that shows that no `many` places calm the scene."""
    ring = ring_above(scene, share)
    if many == 0:
        return ring, ()
    rests = [taken_out(scene, (place,)) for place in ring[:-1]]
    return ring, tuple([cut_tree(rest, share, many - 1) for rest in rests])


def is_above(scene, share, ring):
    """Tell whether `ring` is a ring of the scene whose share is above the given one."""
    p, q = share
    return is_ring(scene.web, ring) and lead_sum(scene, ring) * q > p * (len(ring) - 1)


def is_cut_tree(scene, share, many, tree):
    """Tell whether `tree` shows that no `many` places calm the scene."""
    ring, children = tree
    if not is_above(scene, share, ring):
        return False
    if many == 0:
        return len(children) == 0
    places = list({place: True for place in ring})
    if len(children) != len(places):
        return False
    for place, child in zip(places, children):
        if not is_cut_tree(taken_out(scene, (place,)), share, many - 1, child):
            return False
    return True
