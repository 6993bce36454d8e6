"""Scenes: webs whose places have states, and scenes made from others."""

from firerest.errors import BadPicture
from firerest.webs import Web, check_places

SIGNS = ".*o"
MIRRORED = (0, 2, 1)


class Scene:
    """A web with the states of its places."""

    def __init__(self, web, picture):
        check_picture(web.size, picture)
        self.web = web
        self.picture = tuple(picture)

    def __eq__(self, other):
        return isinstance(other, Scene) and self.web == other.web and self.picture == other.picture


def check_picture(size, picture):
    """Raise `BadPicture` for the least index that does not fit `size` places."""
    for index, state in enumerate(picture):
        if index >= size or state not in (0, 1, 2):
            raise BadPicture(index)
    if len(picture) < size:
        raise BadPicture(len(picture))


def all_ready(web):
    """Return the scene in which every place of the web is ready."""
    return Scene(web, [0] * web.size)


def mirror(scene):
    """Return the scene with fired and resting places exchanged."""
    return Scene(scene.web, [MIRRORED[state] for state in scene.picture])


def turned(scene, times):
    """Return the scene with every state turned on `times` times."""
    return Scene(scene.web, [(state + times) % 3 for state in scene.picture])


def beside(one, two):
    """Return the scene with the places of `one` and, behind them, those of `two`."""
    return Scene(one.web + two.web, list(one.picture) + list(two.picture))


def taken_out(scene, places):
    """Return the scene in which `places` are ready and have no lines."""
    web = scene.web
    check_places(web, places)
    lines = [(a, b) for a, b in web.lines if a not in places and b not in places]
    picture = [0 if place in places else state for place, state in enumerate(scene.picture)]
    return Scene(Web(web.size, lines), picture)


def part(scene, places):
    """Return the scene of the given places alone, numbered anew."""
    web = scene.web
    check_places(web, places)
    kept = sorted(set(places))
    number = {place: index for index, place in enumerate(kept)}
    lines = [(number[a], number[b]) for a, b in web.lines if a in number and b in number]
    return Scene(Web(len(kept), lines), [scene.picture[place] for place in kept])


def picture_text(scene):
    """Return the picture with one sign for each place."""
    return "".join([SIGNS[state] for state in scene.picture])


def scene_of_text(web, text):
    """Return the scene whose picture the text shows."""
    # A character that is no sign is found at -1, which is no state either.
    return Scene(web, [SIGNS.find(sign) for sign in text])
