"""Fates: what becomes of each piece of a scene that is left alone."""

from firerest.rings import heights, ring_sums, uneven_ring
from firerest.shapes import distances, pieces

# How many beats a place that does not fire any more takes until it is ready.
BEATS_TO_READY = (0, 2, 1)


class Fate:
    """What becomes of one piece: it falls silent, or it lasts."""

    def __init__(self, places, tops, ring, totals, lasts, last, quiet):
        self.places = places
        self.silent = ring == ()
        self.heights = tops
        self.ring = ring
        self.totals = totals
        self.lasts = lasts
        self.last = last
        self.quiet = quiet


def is_silent(scene):
    """Tell whether every piece falls silent."""
    return all([total == 0 for total in ring_sums(scene)])


def fates(scene):
    """Return the fate of each piece."""
    return tuple([fate_of(scene, piece) for piece in pieces(scene.web)])


def fate_of(scene, piece):
    """Return the fate of a piece."""
    ring = uneven_ring(scene, piece[0])
    if ring is not None:
        return Fate(piece, (), ring, (), (), None, None)
    tops = heights(scene, piece[0])
    most = max(tops)
    highest = [place for place, height in zip(piece, tops) if height == most]
    away = distances(scene.web, highest)
    lasts = tuple([away[place] for place in piece])
    quiet = max([ready_beat(scene.picture[place], away[place]) for place in piece])
    totals = tuple([most - height for height in tops])
    return Fate(piece, tops, (), totals, lasts, max(lasts), quiet)


def ready_beat(state, last):
    """Return the beat from which on a place is ready that fires last at beat `last`."""
    return last + BEATS_TO_READY[1] if last > 0 else BEATS_TO_READY[state]
