"""Shares: how often the places of a piece fire in the long run."""

from firerest.leads import lead_sum, state_lead
from firerest.shapes import piece_of
from firerest.slopes import are_slopes_of, greatest_share, ring_nodes
from firerest.webs import is_ring


class SharePaper:
    """The share of a piece, with a ring and slopes that show it."""

    def __init__(self, share, ring, slopes):
        self.share = share
        self.ring = ring
        self.slopes = slopes


def lead_ways(scene, piece):
    """Return, for each place of the piece, the ways to its neighbours.

    The nodes are the indexes in the piece.
    """
    number = {place: index for index, place in enumerate(piece)}
    states = scene.picture
    found = []
    for a in piece:
        near = scene.web.near(a)
        found.append([(number[b], state_lead(states[a], states[b]), 1) for b in near])
    return found


def share(scene, place):
    """Return the greatest share of all rings in the piece of a place."""
    return share_paper(scene, place).share


def share_paper(scene, place):
    """Return the share of the piece of a place, with a ring and slopes."""
    piece = piece_of(scene.web, place)
    most, ring, slopes = greatest_share(lead_ways(scene, piece))
    return SharePaper(most, tuple([piece[node] for node in ring_nodes(ring)]), tuple(slopes))


def is_share_ring(scene, share, ring):
    """Tell whether `ring` is a ring of the scene with this share."""
    p, q = share
    return is_ring(scene.web, ring) and lead_sum(scene, ring) * q == p * (len(ring) - 1)


def are_slopes(scene, place, share, slopes):
    """Tell whether `slopes` are slopes for this share of the piece of a place."""
    piece = piece_of(scene.web, place)
    return len(slopes) == len(piece) and are_slopes_of(lead_ways(scene, piece), share, slopes)
