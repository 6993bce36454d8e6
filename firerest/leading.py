"""Leading: which scenes can be reached from which others by pokes, and how soon."""

from firerest.beats import idle_places, masks_of_scene, next_masks
from firerest.books import Book
from firerest.far import far_turns
from firerest.lags import check_same_web, gap_masks, lags, tight_places, unlike_ring
from firerest.leads import lead_sum
from firerest.masks import mask_of, places_of
from firerest.scenes import turned
from firerest.shapes import piece_of
from firerest.webs import is_ring


class Leading:
    """A book that leads one scene to another, or what shows that there is none."""

    def __init__(self, book, ring, place, lag, waits):
        self.book = book
        self.ring = ring
        self.place = place
        self.lag = lag
        self.waits = waits


def waits_alone(one, beats):
    """Return at how many of the first `beats` beats each place waits, left alone."""
    return [beats - many for many in far_turns(one, beats)]


def short_place(needs, waited):
    """Return the least place that needs more waits than it has, or None."""
    for place, need in enumerate(needs):
        if need > waited[place]:
            return place
    return None


def can_lead(one, two, beats):
    """Tell whether some book leads `one` to `two` in exactly `beats` beats."""
    needs = lags(turned(one, beats), two)
    return needs is not None and short_place(needs, waits_alone(one, beats)) is None


def leading(one, two, beats):
    """Return a book that leads `one` to `two` in `beats` beats, or why there is none."""
    ring = unlike_ring(one, two)
    if ring is not None:
        return Leading(None, ring, None, None, None)
    needs = lags(turned(one, beats), two)
    waited = waits_alone(one, beats)
    place = short_place(needs, waited)
    if place is not None:
        return Leading(None, None, place, needs[place], waited[place])
    return Leading(waiting_book(one, needs, beats), None, None, None, None)


def waiting_book(one, needs, beats):
    """Return a book under which each place waits as often as it needs, and first of all.

    Then it is poked whenever it would wait. So it comes as late as it can to
    what it needs, and brings no neighbour further than that one needs.
    """
    web = one.web
    masks = masks_of_scene(one)
    left = list(needs)
    pokes = []
    for beat in range(beats):
        poked = []
        for place in idle_places(web, masks):
            if left[place] > 0:
                left[place] -= 1
            else:
                poked.append(place)
        pokes.extend([(beat, place) for place in poked])
        masks = next_masks(web.masks, masks, mask_of(poked))
    return Book(pokes)


def tight_ring(scene, place):
    """Return a tight ring that begins at a place that is on one."""
    steps = gap_masks(scene)
    walks = {other: [place, other] for other in places_of(steps[place])}
    found = list(walks)
    at = 0
    while place not in walks:
        here = found[at]
        for other in places_of(steps[here]):
            if other not in walks:
                walks[other] = walks[here] + [other]
                found.append(other)
        at += 1
    return tuple(walks[place])


def why_never(one, two):
    """Return what shows that no book leads `one` to `two`, or None if some book does."""
    ring = unlike_ring(one, two)
    if ring is not None:
        return ("unlike", ring)
    ahead = lags(one, two)
    tight = tight_places(one)
    for place in tight:
        for other in piece_of(one.web, place):
            if ahead[other] < ahead[place]:
                return ("tight", tight_ring(one, place), other)
    # Each of them has the least lag of its piece now: 0, 1 or 2.
    for place in tight:
        if ahead[place] != ahead[tight[0]]:
            return ("apart", tight_ring(one, tight[0]), tight_ring(one, place))
    return None


def is_tight(scene, ring):
    """Tell whether `ring` is a ring that is three times as long as its lead sum."""
    return is_ring(scene.web, ring) and len(ring) - 1 == 3 * lead_sum(scene, ring)


def is_never(one, two, why):
    """Tell whether `why` shows that no book leads `one` to `two`."""
    check_same_web(one, two)
    ring = why[1]
    if why[0] == "unlike":
        return is_ring(one.web, ring) and lead_sum(one, ring) != lead_sum(two, ring)
    if not is_tight(one, ring):
        return False
    if why[0] == "tight":
        ahead = lags(one, two)
        return ahead is not None and is_behind(one.web, ahead, why[2], ring[0])
    if not is_tight(one, why[2]):
        return False
    return state_lag(one, two, ring[0]) != state_lag(one, two, why[2][0])


def is_behind(web, ahead, place, first):
    """Tell whether a number is a place of the piece of `first` with a lesser lag."""
    return place in piece_of(web, first) and ahead[place] < ahead[first]


def state_lag(one, two, place):
    """Return the remainder of the lag of a place, as its states tell it."""
    return (one.picture[place] - two.picture[place]) % 3


def least_beats(one, two):
    """Return the least number of beats in which some book leads `one` to `two`, or None."""
    if why_never(one, two) is not None:
        return None
    web = one.web
    needs = [lags(turned(one, times), two) for times in range(3)]
    masks = masks_of_scene(one)
    waited = [0] * web.size
    beats = 0
    while short_place(needs[beats % 3], waited) is not None:
        for place in idle_places(web, masks):
            waited[place] += 1
        masks = next_masks(web.masks, masks, 0)
        beats += 1
    return beats
