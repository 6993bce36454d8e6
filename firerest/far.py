"""Runs over numbers of beats that are far too great to go beat by beat."""

from firerest.beats import add_firings, next_masks, poked_mask, turns_between
from firerest.books import given_book
from firerest.leads import state_lead
from firerest.rounds import NO_POKES, leap, masks_by_piece, scene_of_parts
from firerest.tables import Table


def lead_table(scene):
    """Return the table of the leads, with 0 for staying where one is."""
    places = range(scene.web.size)
    return Table([[table_entry(scene, a, b) for b in places] for a in places])


def table_entry(scene, a, b):
    """Return the gain of going from one place to another in one beat, or None."""
    if a == b:
        return 0
    if (a, b) in scene.web:
        return state_lead(scene.picture[a], scene.picture[b])
    return None


def far_run(scene, beats, book=None):
    """Return the scene at beat `beats`."""
    return far_course(scene, beats, book)[0]


def far_counts(scene, beats, book=None):
    """Return how often each place fires up to beat `beats`."""
    return far_course(scene, beats, book)[1]


def far_turns(scene, beats, book=None):
    """Return how often the state of each place changes up to beat `beats`."""
    last, many = far_course(scene, beats, book)
    return turns_between(scene, many, last)


def far_course(scene, beats, book):
    """Return the scene at beat `beats` and the firings of each place up to it.

    Each piece runs for itself: its pictures come back soon, while those of
    the whole scene may come back only after the product of many periods.
    """
    web = scene.web
    pokes = poke_masks(web, beats, given_book(book))
    many = [0] * web.size
    parts = []
    for inside, masks in masks_by_piece(scene):
        own = [(beat, poked & inside) for beat, poked in pokes if poked & inside != 0]
        parts.append(piece_course(web.masks, masks, beats, own, many))
    return scene_of_parts(web, parts), tuple(many)


def poke_masks(web, beats, book):
    """Return (beat, mask of the poked places) for the beats with pokes below `beats`."""
    times = sorted(set([beat for beat, _ in book.pokes if beat < beats]))
    return [(beat, poked_mask(web, book.at(beat))) for beat in times]


def piece_course(near, masks, beats, pokes, many):
    """Return the masks of a piece at beat `beats`; add its firings to `many`."""
    now = 0
    for beat, poked in pokes:
        masks = next_masks(near, leap(near, masks, NO_POKES, beat - now, many), poked)
        add_firings(many, [masks], 1)
        now = beat + 1
    return leap(near, masks, NO_POKES, beats - now, many)
