"""Pieces and distances of a web, and webs with one line more or less."""

from firerest.errors import NoLine, SamePlace
from firerest.masks import flooded, mask_of, places_of, spread
from firerest.webs import Web, check_places


def pieces(web):
    """Return all pieces, in the order of their least places."""
    found = []
    seen = 0
    for place in range(web.size):
        if (seen >> place) & 1 == 0:
            piece = piece_of(web, place)
            seen = seen | mask_of(piece)
            found.append(piece)
    return tuple(found)


def piece_of(web, place):
    """Return the piece of a place."""
    check_places(web, (place,))
    return places_of(flooded(web.masks, 1 << place, -1))


def distances(web, places):
    """Return each place's least number of steps to one of `places`, or None."""
    check_places(web, places)
    found = [None] * web.size
    seen = 0
    fresh = mask_of(places)
    length = 0
    while fresh != 0:
        for place in places_of(fresh):
            found[place] = length
        seen = seen | fresh
        fresh = spread(web.masks, fresh) & ~seen
        length += 1
    return tuple(found)


def joined(web, a, b):
    """Return the web with a line between two places."""
    check_places(web, (a, b))
    if a == b:
        raise SamePlace(a)
    return Web(web.size, list(web.lines) + [(a, b)])


def parted(web, a, b):
    """Return the web without the line between two places."""
    check_places(web, (a, b))
    if (a, b) not in web:
        raise NoLine(a, b)
    return Web(web.size, [line for line in web.lines if line != (min(a, b), max(a, b))])
