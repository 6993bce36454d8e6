"""Runs of scenes, beat by beat."""

from firerest.beats import add_firings, masks_of_scene, next_masks, poked_mask
from firerest.beats import scene_of_masks, turns_between
from firerest.books import given_book
from firerest.webs import check_places


def step(scene, poked=()):
    """Return the scene one beat later."""
    web = scene.web
    masks = next_masks(web.masks, masks_of_scene(scene), poked_mask(web, poked))
    return scene_of_masks(web, masks)


def masks_along(scene, beats, book):
    """Return the masks of the run at the beats 0 to `beats`."""
    web = scene.web
    pokes = given_book(book)
    masks = masks_of_scene(scene)
    along = [masks]
    for beat in range(beats):
        masks = next_masks(web.masks, masks, poked_mask(web, pokes.at(beat)))
        along.append(masks)
    return along


def run(scene, beats, book=None):
    """Return the scene at beat `beats`."""
    return scene_of_masks(scene.web, masks_along(scene, beats, book)[-1])


def film(scene, beats, book=None):
    """Yield the scenes at the beats 0 to `beats`."""
    pokes = given_book(book)
    shown = scene
    yield shown
    for beat in range(beats):
        shown = step(shown, pokes.at(beat))
        yield shown


def counts(scene, beats, book=None):
    """Return how often each place fires up to beat `beats`."""
    return tally(scene.web, masks_along(scene, beats, book))


def tally(web, along):
    """Return how often each place fires behind the first masks of `along`."""
    many = [0] * web.size
    add_firings(many, along[1:], 1)
    return tuple(many)


def firings(scene, place, beats, book=None):
    """Return the beats from 1 to `beats` at which a place fires."""
    check_places(scene.web, (place,))
    found = []
    for beat, (fired, _) in enumerate(masks_along(scene, beats, book)):
        if beat > 0 and fired >> place & 1 == 1:
            found.append(beat)
    return tuple(found)


def turns(scene, beats, book=None):
    """Return how often the state of each place changes up to beat `beats`."""
    web = scene.web
    along = masks_along(scene, beats, book)
    return turns_between(scene, tally(web, along), scene_of_masks(web, along[-1]))


def waits(scene, beats, book=None):
    """Return at how many of the first `beats` beats each place stays ready."""
    return tuple([beats - many for many in turns(scene, beats, book)])
