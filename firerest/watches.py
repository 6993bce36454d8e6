"""Watches: what was seen of some places while others may have been poked."""

from firerest.errors import BadRecord
from firerest.webs import check_places

# The states that may follow each state.
FOLLOWING = ((0, 1), (2,), (0,))


class Watch:
    """A known scene, the records of some places, and the places that may have been poked."""

    def __init__(self, scene, beats, records, suspects):
        check_places(scene.web, suspects)
        check_records(scene, beats, records)
        self.scene = scene
        self.beats = beats
        self.records = tuple(sorted([(place, tuple(states)) for place, states in records]))
        self.suspects = tuple(sorted(set(suspects)))


def check_records(scene, beats, records):
    """Raise `BadRecord` for the first record that is wrong."""
    seen = {}
    for index, (place, states) in enumerate(records):
        if not 0 <= place < scene.web.size or place in seen:
            raise BadRecord(index)
        if len(states) != beats + 1 or states[0] != scene.picture[place] or not is_course(states):
            raise BadRecord(index)
        seen[place] = True


def is_course(states):
    """Tell whether these are states that a place may have one after another."""
    if any([state not in (0, 1, 2) for state in states]):
        return False
    return all([later in FOLLOWING[state] for state, later in zip(states, states[1:])])
