"""Refutations: tables of bounds that show that a watch has no story."""

from firerest.bounds import caps_of, free, fullest_run, is_capped_below, is_short
from firerest.bounds import place_bounds, place_gap, seen_turns


def refutation(watch):
    """Return the caps and the rows that show that there is no story, or None if there is one."""
    caps = caps_of(watch, {})
    if is_capped_below(caps):
        # The caps alone show it. No place has more turns than beats.
        size = watch.scene.web.size
        return caps, tuple([(beat,) * size for beat in range(watch.beats + 1)])
    _, rows = fullest_run(watch, caps, watch.suspects)
    return (caps, rows) if is_short(watch, rows) else None


def is_refutation(watch, caps, rows):
    """Tell whether caps and rows are a refutation."""
    if not (is_capped_below(caps) or is_short(watch, rows)):
        return False
    return are_caps(watch, caps) and are_rows(watch, caps, rows)


def are_caps(watch, caps):
    """Tell whether each cap has a reason."""
    seen = seen_turns(watch)
    for beat, row in enumerate(caps):
        later = caps[beat + 1] if beat < watch.beats else (None,) * len(row)
        for place, cap in enumerate(row):
            if cap is not None:
                # A cap has a reason if it is not below some bound.
                reasons = place_bounds(watch.scene, seen, later, beat, place)
                if min(reasons, default=cap + 1) > cap:
                    return False
    return True


def are_rows(watch, caps, rows):
    """Tell whether no row is below what the row before it demands."""
    if any([item < 0 for item in rows[0]]):
        return False
    for beat in range(watch.beats):
        for place, item in enumerate(rows[beat + 1]):
            cap = caps[beat + 1][place]
            if (cap is None or item < cap) and item < reach(watch, rows[beat], place):
                return False
    return True


def reach(watch, row, place):
    """Return the most turns that a place may have one beat after the turns of `row`."""
    scene = watch.scene
    own = row[place] + 1 if place in watch.suspects else free(scene, place, row[place])
    return max([own] + [row[other] + place_gap(scene, place, other) for other in scene.web.near(place)])
