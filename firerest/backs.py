"""There and back: from which scenes a scene can come."""

from firerest.books import given_book
from firerest.repeats import repeat
from firerest.runs import run, step
from firerest.scenes import Scene, mirror

# What a place was one beat before, by its state; a ready one that is not free.
BEFORE = (2, 0, 1)


def back(scene, poked=()):
    """Return a scene one beat earlier."""
    return mirror(step(mirror(scene), poked))


def latest_start(scene, beats, book=None):
    """Return the latest scene whose run has the scene at beat `beats`, or None."""
    pokes = given_book(book)
    start = mirror(run(mirror(scene), beats, pokes.about(beats)))
    return start if run(start, beats, pokes) == scene else None


def is_seen(scene, beats, book=None):
    """Tell whether some run under the book has the scene at beat `beats`."""
    return latest_start(scene, beats, book) is not None


def age(scene):
    """Return the greatest number of beats at which the scene is seen, or None."""
    if repeat(scene).first == 0:
        return None
    # What is seen at a beat is seen at all earlier ones, too.
    unseen = 1
    while is_seen(scene, unseen):
        unseen = 2 * unseen
    seen = unseen // 2
    while unseen - seen > 1:
        middle = (seen + unseen) // 2
        if is_seen(scene, middle):
            seen = middle
        else:
            unseen = middle
    return seen


def rested(scene, place):
    """Tell whether a place has a resting neighbour."""
    return any([scene.picture[other] == 2 for other in scene.web.near(place)])


def has_before(scene):
    """Tell whether one step without pokes leads from some scene to this one."""
    places = range(scene.web.size)
    return all([scene.picture[place] != 1 or rested(scene, place) for place in places])


def free_places(scene):
    """Return the ready places that may have been ready or resting one beat before."""
    places = range(scene.web.size)
    return [place for place in places if scene.picture[place] == 0 and not rested(scene, place)]


def befores(scene):
    """Yield all scenes from which one step without pokes leads to the scene."""
    if not has_before(scene):
        return
    free = free_places(scene)
    picture = [BEFORE[state] for state in scene.picture]
    for number in range(1 << len(free)):
        # The first free place changes last: so the pictures come in order.
        for index, place in enumerate(free[::-1]):
            picture[place] = 2 * (number >> index & 1)
        yield Scene(scene.web, picture)


def before_count(scene):
    """Return how many scenes one step without pokes leads to the scene."""
    return 1 << len(free_places(scene)) if has_before(scene) else 0
