"""Trails: ways back through the beats that tell how often a place fires."""

from firerest.books import given_book
from firerest.errors import NotATrail
from firerest.leads import state_lead
from firerest.masks import places_of
from firerest.runs import masks_along
from firerest.webs import check_places


def way_gain(scene, pokes, pair, later):
    """Return the gain of going from a pair to the later one, or None if it does not follow.

    `pokes` is a book or a pace.
    """
    place, beat = pair
    other, earlier = later
    if beat < 1:
        return None
    if earlier == beat - 1:
        if other == place:
            return 0
        if (place, other) in scene.web:
            return state_lead(scene.picture[place], scene.picture[other])
    if earlier == beat - 3 and other == place and place in pokes.at(beat - 1):
        return 1
    return None


def end_gain(state, beat):
    """Return the end gain for the last beat and the state of the last place."""
    if (beat == -1 and state == 1) or (beat == -2 and state in (1, 2)):
        return -1
    return 0


def check_trail_start(web, trail):
    """Raise `NotATrail` unless the trail has a first pair that is allowed."""
    if len(trail) == 0:
        raise NotATrail(0)
    place, beat = trail[0]
    if not 0 <= place < web.size or beat < 0:
        raise NotATrail(0)


def trail_gain(scene, trail, book=None):
    """Return the gain of a trail of the scene and the book."""
    check_trail_start(scene.web, trail)
    pokes = given_book(book)
    total = 0
    for index in range(1, len(trail)):
        gain = way_gain(scene, pokes, trail[index - 1], trail[index])
        if gain is None:
            raise NotATrail(index)
        total += gain
    place, beat = trail[-1]
    if beat > 0:
        raise NotATrail(len(trail))
    return total + end_gain(scene.picture[place], beat)


def cause(near, place, masks, before):
    """Return the place that makes a place what it is, or None if only a poke did.

    It is a place one beat before: itself, if the place does not fire now.
    """
    if masks[0] >> place & 1 == 0:
        return place
    fired = places_of(near[place] & before[0])
    return fired[0] if fired else None


def best_trail(scene, place, beats, book=None):
    """Return a trail with the greatest gain of all that begin with `(place, beats)`.

    It follows the causes back: the step from a place that fires to a
    neighbour that was fired gains what the place has more firings than it had.
    """
    check_places(scene.web, (place,))
    along = masks_along(scene, beats, book)
    trail = [(place, beats)]
    while trail[-1][1] > 0:
        here, beat = trail[-1]
        there = cause(scene.web.masks, here, along[beat], along[beat - 1])
        trail.append((here, beat - 3) if there is None else (there, beat - 1))
    return tuple(trail)
