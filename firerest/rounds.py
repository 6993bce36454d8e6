"""Pieces that run under pokes that come round, until their pictures come back.

The pokes are given as `poked`: the mask of the poked places for each phase.
"""

from firerest.beats import add_firings, masks_of_scene, next_masks, poked_mask, scene_of_masks
from firerest.masks import mask_of
from firerest.shapes import pieces

NO_POKES = (0,)


def phase_masks(web, pace):
    """Return the mask of the poked places of the web for each phase of the pace."""
    return tuple([poked_mask(web, pace.at(phase)) for phase in range(pace.period)])


def masks_by_piece(scene):
    """Return (mask of the piece, masks of its picture) for each piece of the scene."""
    fired, resting = masks_of_scene(scene)
    insides = [mask_of(piece) for piece in pieces(scene.web)]
    return [(inside, (fired & inside, resting & inside)) for inside in insides]


def scene_of_parts(web, parts):
    """Return the scene of the web whose pieces have these masks."""
    all_fired = 0
    all_resting = 0
    for fired, resting in parts:
        all_fired = all_fired | fired
        all_resting = all_resting | resting
    return scene_of_masks(web, (all_fired, all_resting))


def masks_around(near, masks, poked, beats=None):
    """Return the masks at the beats 0, 1, .. until they come back in the same phase.

    They end at beat `beats`, if that comes first. The second value is the
    beat at which the last ones stood before, or None.
    """
    along = [masks]
    seen = {}
    phase = 0
    while beats is None or len(along) <= beats:
        seen[(phase, masks)] = len(along) - 1
        masks = next_masks(near, masks, poked[phase])
        phase = len(along) % len(poked)
        along.append(masks)
        if (phase, masks) in seen:
            return along, seen[(phase, masks)]
    return along, None


def round_index(along, first, beat):
    """Return the index in `along` of the masks at a beat, as `masks_around` gave them."""
    if beat < len(along):
        return beat
    return first + (beat - first) % (len(along) - 1 - first)


def leap(near, masks, poked, beats, many):
    """Return the masks `beats` beats later; add the firings to `many`."""
    along, first = masks_around(near, masks, poked, beats)
    if first is None:
        add_firings(many, along[1:], 1)
        return along[-1]
    rounds, rest = divmod(beats - first, len(along) - 1 - first)
    add_firings(many, along[1:first + 1], 1)
    add_firings(many, along[first + 1:], rounds)
    add_firings(many, along[first + 1:first + 1 + rest], 1)
    return along[first + rest]
