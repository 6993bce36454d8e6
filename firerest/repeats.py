"""Repeats: how the pictures of a scene come back under a pace."""

from math import lcm

from firerest.beats import add_firings
from firerest.books import given_pace
from firerest.rounds import leap, masks_around, masks_by_piece, phase_masks, scene_of_parts


class Repeat:
    """From beat `first` on, the picture comes back after every `period` beats."""

    def __init__(self, first, period, gains):
        self.first = first
        self.period = period
        self.gains = gains


def repeat(scene, pace=None):
    """Return the repeat of the scene under the pace.

    Each piece is followed for itself: the scene comes back when all pieces do.
    """
    near = scene.web.masks
    poked = phase_masks(scene.web, given_pace(pace))
    first = 0
    period = len(poked)
    courses = []
    for inside, masks in masks_by_piece(scene):
        along, start = masks_around(near, masks, [mask & inside for mask in poked])
        courses.append(along[start + 1:])
        first = max(first, start)
        period = lcm(period, len(along) - 1 - start)
    gains = [0] * scene.web.size
    for around in courses:
        add_firings(gains, around, period // len(around))
    return Repeat(first, period, tuple(gains))


def paced_course(scene, beats, pace):
    """Return the scene at beat `beats` and the firings of each place up to it."""
    web = scene.web
    poked = phase_masks(web, given_pace(pace))
    many = [0] * web.size
    parts = []
    for inside, masks in masks_by_piece(scene):
        own = [mask & inside for mask in poked]
        parts.append(leap(web.masks, masks, own, beats, many))
    return scene_of_parts(web, parts), tuple(many)


def repeat_run(scene, beats, pace=None):
    """Return the scene at beat `beats` of the run under the pace."""
    return paced_course(scene, beats, pace)[0]


def repeat_counts(scene, beats, pace=None):
    """Return how often each place fires up to beat `beats` of the run under the pace."""
    return paced_course(scene, beats, pace)[1]
