"""Bounds on the turns that the places of a watch may have in its stories.

Bounds are rows: one row for each beat, with one item for each place.
"""

from firerest.beats import idle_places, masks_of_scene, next_masks
from firerest.leads import state_gap
from firerest.masks import mask_of


def free(scene, place, many):
    """Return the turns of a place one beat after `many` turns, if nothing makes it fire."""
    return many if (scene.picture[place] + many) % 3 == 0 else many + 1


def place_gap(scene, a, b):
    """Return the gap from a place to a neighbour."""
    return state_gap(scene.picture[a], scene.picture[b])


def seen_turns(watch):
    """Return a dict from each recorded place to its turns up to each beat."""
    found = {}
    for place, states in watch.records:
        many = [0]
        for here, there in zip(states, states[1:]):
            many.append(many[-1] if here == there else many[-1] + 1)
        found[place] = tuple(many)
    return found


def caps_of(watch, limits):
    """Return the caps: no place has more turns in a story; None is no bound.

    `limits` is a dict from (beat, place) to further bounds.
    """
    seen = seen_turns(watch)
    caps = []
    later = (None,) * watch.scene.web.size
    for beat in range(watch.beats, -1, -1):
        row = []
        for place in range(watch.scene.web.size):
            told = place_bounds(watch.scene, seen, later, beat, place)
            if (beat, place) in limits:
                told.append(limits[(beat, place)])
            row.append(min(told, default=None))
        later = tuple(row)
        caps.append(later)
    return tuple(caps[::-1])


def place_bounds(scene, seen, later, beat, place):
    """Return the bounds for a place that its record and the caps one beat later tell."""
    found = [seen[place][beat]] if place in seen else []
    if later[place] is not None:
        ready = (scene.picture[place] + later[place]) % 3 == 0
        found.append(later[place] if ready else later[place] - 1)
    for other in scene.web.near(place):
        if later[other] is not None:
            found.append(later[other] - place_gap(scene, other, place))
    return found


def fullest_run(watch, caps, suspects):
    """Return the pokes, and the turns up to each beat, of a run inside the caps.

    The suspects are poked whenever they would wait, but may turn. What a place
    does of itself, or because of its neighbours, is inside the caps if those
    for beat 0 are not below 0.
    """
    web = watch.scene.web
    masks = masks_of_scene(watch.scene)
    many = (0,) * web.size
    rows = [many]
    pokes = []
    for beat in range(watch.beats):
        idle = idle_places(web, masks)
        poked = [place for place in idle if place in suspects and may_turn(caps[beat + 1], many, place)]
        many = tuple([
            number if place in idle and place not in poked else number + 1
            for place, number in enumerate(many)
        ])
        rows.append(many)
        pokes.extend([(beat, place) for place in poked])
        masks = next_masks(web.masks, masks, mask_of(poked))
    return pokes, tuple(rows)


def may_turn(caps, many, place):
    """Tell whether a place is below its cap."""
    return caps[place] is None or many[place] < caps[place]


def is_capped_below(caps):
    """Tell whether some place must have fewer than 0 turns up to beat 0."""
    return any([cap is not None and cap < 0 for cap in caps[0]])


def is_short(watch, rows):
    """Tell whether some recorded place has more turns in its record than in `rows`."""
    for place, seen in seen_turns(watch).items():
        if any([many > row[place] for many, row in zip(seen, rows)]):
            return True
    return False


def fullest_story(watch, caps, suspects):
    """Return what `fullest_run` returns if it is a story, otherwise None.

    If it is not, no book with pokes of these suspects is a story inside the caps.
    """
    if is_capped_below(caps):
        return None
    pokes, rows = fullest_run(watch, caps, suspects)
    return None if is_short(watch, rows) else (pokes, rows)
