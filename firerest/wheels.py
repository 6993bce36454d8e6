"""Wheels: how often places fire in the long run under pokes that come round."""

from firerest.leads import state_lead
from firerest.shapes import piece_of
from firerest.slopes import are_slopes_of, greatest_share
from firerest.trails import way_gain


class PacedPaper:
    """The share of a piece under a pace, with a wheel ring and slopes that show it."""

    def __init__(self, share, ring, slopes):
        self.share = share
        self.ring = ring
        self.slopes = slopes


def wheel_ways(scene, piece, pace):
    """Return the ways from each place of the piece in each phase.

    The node of the place with the index `k` in phase `f` is `f * len(piece) + k`:
    in this order slopes are found soon, since ways lead to the phases before.
    """
    number = {place: index for index, place in enumerate(piece)}
    found = []
    for phase in range(pace.period):
        first = (phase - 1) % pace.period * len(piece)
        poked = pace.at((phase - 1) % pace.period)
        for index, place in enumerate(piece):
            outward = [(first + index, 0, 1)]
            for other in scene.web.near(place):
                gain = state_lead(scene.picture[place], scene.picture[other])
                outward.append((first + number[other], gain, 1))
            if place in poked:
                outward.append(((phase - 3) % pace.period * len(piece) + index, 1, 3))
            found.append(outward)
    return found


def wheel_ring(piece, ways):
    """Return the pairs of the places and beats of a ring that is given by its ways."""
    if not ways:
        return ()
    phase, index = divmod(ways[-1][0], len(piece))
    beat = phase + sum([way[2] for way in ways])
    found = [(piece[index], beat)]
    for there, _, beats in ways:
        beat -= beats
        found.append((piece[there % len(piece)], beat))
    return tuple(found)


def paced_share(scene, place, pace):
    """Return the greatest share of the wheel rings in the piece of a place."""
    return paced_paper(scene, place, pace).share


def paced_paper(scene, place, pace):
    """Return the paced share of the piece of a place, with a wheel ring and slopes."""
    piece = piece_of(scene.web, place)
    most, ways, slopes = greatest_share(wheel_ways(scene, piece, pace))
    rows = [tuple(slopes[index::len(piece)]) for index in range(len(piece))]
    return PacedPaper(most, wheel_ring(piece, ways), tuple(rows))


def wheel_gain(scene, pace, ring):
    """Return the sum of the gains of the ways between the pairs, or None if one does not follow."""
    total = 0
    for pair, later in zip(ring, ring[1:]):
        gain = way_gain(scene, pace, pair, later)
        if gain is None:
            return None
        total += gain
    return total


def is_paced_ring(scene, pace, share, ring):
    """Tell whether `ring` is a wheel ring of the scene and the pace with this share."""
    if len(ring) < 2:
        return False
    p, q = share
    start, beat = ring[0]
    place, last = ring[-1]
    if not 0 <= start < scene.web.size or start != place:
        return False
    if not 0 <= last < pace.period or (beat - last) % pace.period != 0:
        return False
    total = wheel_gain(scene, pace, ring)
    return total is not None and total * q == p * (beat - last)


def are_paced_slopes(scene, place, pace, share, slopes):
    """Tell whether `slopes` are paced slopes for this share of the piece of a place."""
    piece = piece_of(scene.web, place)
    if len(slopes) != len(piece) or any([len(row) != pace.period for row in slopes]):
        return False
    flat = [row[phase] for phase in range(pace.period) for row in slopes]
    return are_slopes_of(wheel_ways(scene, piece, pace), share, flat)
