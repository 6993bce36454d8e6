"""Slopes that bound the shares of all rings, and rings that go beyond a share.

The ways that a ring may take are given as one list for each node, the numbers
0, 1, .. A way is a tuple: the node to which it leads, its gain, and its beats,
which are 1 or more. A ring is given as the list of its ways: it begins and ends
at the node to which the last of them leads.
"""

from math import gcd


def lowest(p, q):
    """Return the share in lowest terms."""
    common = gcd(p, q)
    return p // common, q // common


def are_slopes_of(ways, share, slopes):
    """Tell whether each way goes down as steeply as the share demands."""
    p, q = share
    for node, outward in enumerate(ways):
        for there, gain, beats in outward:
            if q * gain - p * beats > slopes[node] - slopes[there]:
                return False
    return True


def lift(ways, share, slopes, taken):
    """Raise each slope as far as the slopes behind its ways demand.

    `taken` gets the way that demanded it. Return whether a slope was raised.
    """
    p, q = share
    lifted = False
    for node, outward in enumerate(ways):
        for way in outward:
            there, gain, beats = way
            slope = slopes[there] + q * gain - p * beats
            if slope > slopes[node]:
                slopes[node] = slope
                taken[node] = way
                lifted = True
    return lifted


def taken_ring(taken):
    """Return a ring of taken ways, or None."""
    seen = {}
    for start in range(len(taken)):
        node = start
        while taken[node] is not None and node not in seen:
            seen[node] = start
            node = taken[node][0]
        if seen.get(node) == start:
            return ways_round(taken, node)
    return None


def ways_round(taken, node):
    """Return the taken ways from a node back to it."""
    ring = [taken[node]]
    while ring[-1][0] != node:
        ring.append(taken[ring[-1][0]])
    return ring


def ring_nodes(ring):
    """Return the nodes of a ring; the first one is also the last one."""
    nodes = [way[0] for way in ring]
    return nodes[-1:] + nodes


def slopes_or_ring(ways, share):
    """Return slopes for the share and None, or None and a ring with a greater share.

    No node occurs twice in the ring.
    """
    slopes = [0] * len(ways)
    taken = [None] * len(ways)
    while lift(ways, share, slopes, taken):
        # A way is only taken if it raises a slope: so what ways that were
        # taken gain on their way round to where they began is above 0.
        ring = taken_ring(taken)
        if ring is not None:
            return None, ring
    return slopes, None


def greatest_share(ways):
    """Return the greatest share of all rings, a ring that has it, and slopes for it.

    If no ring has a share above 0, the share is 0 and the ring is empty.
    """
    share = (0, 1)
    ring = []
    slopes, better = slopes_or_ring(ways, share)
    while better is not None:
        ring = better
        share = lowest(sum([way[1] for way in ring]), sum([way[2] for way in ring]))
        slopes, better = slopes_or_ring(ways, share)
    return share, ring, slopes
