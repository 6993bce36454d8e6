"""One beat and many beats of a picture that is held as two masks.

The masks of a picture are the pair of the mask of its fired places and the
mask of its resting places.
"""

from firerest.masks import places_of, spread
from firerest.scenes import Scene


def masks_of_scene(scene):
    """Return the masks of the scene's picture."""
    fired = 0
    resting = 0
    for place, state in enumerate(scene.picture):
        if state == 1:
            fired = fired | (1 << place)
        elif state == 2:
            resting = resting | (1 << place)
    return fired, resting


def scene_of_masks(web, masks):
    """Return the scene of the web whose picture has these masks."""
    fired, resting = masks
    states = [(fired >> place & 1) + 2 * (resting >> place & 1) for place in range(web.size)]
    return Scene(web, states)


def poked_mask(web, poked):
    """Return the mask of those numbers in `poked` that are places of the web."""
    mask = 0
    for place in poked:
        if 0 <= place < web.size:
            mask = mask | (1 << place)
    return mask


def next_masks(near, masks, poked):
    """Return the masks one beat later."""
    fired, resting = masks
    reached = spread(near, fired) | poked
    return reached & ~(fired | resting), fired


def idle_places(web, masks):
    """Return the places that are ready and stay so for a beat, if they are not poked."""
    fired, resting = masks
    every = (1 << web.size) - 1
    return places_of(every & ~(fired | resting | spread(web.masks, fired)))


def add_firings(many, along, times):
    """Add to `many` each place's firings in the masks of `along`, `times` times."""
    for fired, _ in along:
        for place in places_of(fired):
            many[place] += times


def turns_between(before, many, after):
    """Return the turns of each place between two scenes of a run.

    `many` has the firings. Since states only go round, the state behind them
    and the number of firings on the way tell the turns.
    """
    found = []
    for first, fires, last in zip(before.picture, many, after.picture):
        rounds = fires + (1 if first > 0 else 0)
        found.append(3 * rounds - (-last) % 3 - first)
    return tuple(found)
