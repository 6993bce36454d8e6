"""Lags: how many turns one scene is ahead of another one; and tight rings."""

from firerest.errors import WebsDiffer
from firerest.leads import gap_sum, lead_sum, state_gap
from firerest.masks import flooded, mask_of
from firerest.rings import basic_rings, forest, way_up
from firerest.shapes import pieces


def check_same_web(one, two):
    """Raise `WebsDiffer` unless both scenes have the same web."""
    if one.web != two.web:
        raise WebsDiffer()


def unlike_ring(one, two):
    """Return a ring that has different lead sums in the two scenes, or None."""
    check_same_web(one, two)
    for ring in basic_rings(one.web):
        if lead_sum(one, ring) != lead_sum(two, ring):
            return ring
    return None


def lags(one, two):
    """Return the lag of each place, or None if there are none."""
    if unlike_ring(one, two) is not None:
        return None
    parents = forest(one.web)
    found = [0] * one.web.size
    for piece in pieces(one.web):
        first = piece[0]
        start = one.picture[first] - two.picture[first]
        ways = [way_up(parents, place) for place in piece]
        # The gap sums of the way up tell the lag of its end minus that of its start.
        row = [start - gap_sum(one, way) + gap_sum(two, way) for way in ways]
        least = min(row)
        for place, number in zip(piece, row):
            found[place] = number - least + least % 3
    return tuple(found)


def gap_masks(scene):
    """Return, for each place, the mask of the neighbours to which its gap is 1."""
    states = scene.picture
    found = []
    for a in range(scene.web.size):
        found.append(mask_of([b for b in scene.web.near(a) if state_gap(states[a], states[b]) == 1]))
    return tuple(found)


def tight_places(scene):
    """Return all places on tight rings, in ascending order."""
    steps = gap_masks(scene)
    places = range(scene.web.size)
    return tuple([place for place in places if flooded(steps, steps[place], -1) >> place & 1 == 1])
