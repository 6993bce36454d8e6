"""Wishes: lead sums that the rings of a web should have."""

from firerest.leads import check_walk, lead_sum
from firerest.rings import basic_rings
from firerest.scenes import Scene
from firerest.slopes import ring_nodes, slopes_or_ring

THIRD = (1, 3)


class Wish:
    """A scene that has a wish, or a ring that shows that there is none."""

    def __init__(self, scene, ring):
        self.scene = scene
        self.ring = ring


def step_sums(web, sums):
    """Return a dict from each step (a pair of neighbours) to its wished sum."""
    found = {}
    for (a, b), number in zip(web.lines, sums):
        found[(a, b)] = number
        found[(b, a)] = -number
    return found


def wished_sum(web, sums, walk):
    """Return the sum of the wished sums of the steps of a walk."""
    check_walk(web, walk)
    return walk_sum(step_sums(web, sums), walk)


def walk_sum(steps, walk):
    """Return the sum over the steps of a walk."""
    return sum([steps[step] for step in zip(walk, walk[1:])])


def has_wish(scene, sums):
    """Tell whether the lead sum of each ring is its wished sum."""
    web = scene.web
    if len(sums) != len(web):
        return False
    steps = step_sums(web, sums)
    # Every ring is made up of basic rings, and so are its sums.
    return all([lead_sum(scene, ring) == walk_sum(steps, ring) for ring in basic_rings(web)])


def wish(web, sums):
    """Return a scene of the web that has the wish, or a ring that is too short for it.

    Slopes for the share 1/3 are turns that give each step the gap that is
    three times its wished sum, less the slope that it goes down: -1, 0 or 1.
    """
    steps = step_sums(web, sums)
    ways = [[(b, steps[(a, b)], 1) for b in web.near(a)] for a in range(web.size)]
    slopes, ring = slopes_or_ring(ways, THIRD)
    if ring is None:
        return Wish(Scene(web, [slope % 3 for slope in slopes]), ())
    return Wish(None, tuple(ring_nodes(ring)))
