"""Sheets: what a text tells about a scene and what is done with it."""


class Sheet:
    """Declarations that make a scene, and deeds."""

    def __init__(self, weave, deeds):
        self.weave = all_tuples(weave)
        self.deeds = all_tuples(deeds)

    def __eq__(self, other):
        return isinstance(other, Sheet) and self.weave == other.weave and self.deeds == other.deeds


def all_tuples(value):
    """Return the value with tuples instead of lists, at every level."""
    if isinstance(value, (list, tuple)):
        return tuple([all_tuples(item) for item in value])
    return value
