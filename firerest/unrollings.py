"""Unrollings: larger scenes in which every copy of a place does the same."""

from firerest.scenes import Scene
from firerest.webs import Web


def unrolled(scene, ways, shifts):
    """Return the scene with `ways` copies of each place, joined with the given shifts."""
    lines = []
    for (a, b), shift in zip(scene.web.lines, shifts):
        lines.extend([(a * ways + j, b * ways + (j + shift) % ways) for j in range(ways)])
    picture = [state for state in scene.picture for _ in range(ways)]
    return Scene(Web(scene.web.size * ways, lines), picture)
