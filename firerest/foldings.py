"""Foldings: places that always do the same, put together."""

from firerest.scenes import Scene
from firerest.webs import Web


def numbered(marks):
    """Return a number for each mark, equal ones for equal marks, in the order of the first."""
    numbers = {}
    for mark in marks:
        numbers.setdefault(mark, len(numbers))
    return tuple([numbers[mark] for mark in marks])


def sides(scene, numbers):
    """Return what an even sorting asks of each place: its number, its state, those beside it."""
    found = []
    for place, state in enumerate(scene.picture):
        near = sorted(set([numbers[other] for other in scene.web.near(place)]))
        found.append((numbers[place], state, tuple(near)))
    return found


def folding(scene):
    """Return the even sorting with the fewest numbers."""
    numbers = numbered(scene.picture)
    finer = numbered(sides(scene, numbers))
    # What differs here differs in every even sorting.
    while finer != numbers:
        numbers = finer
        finer = numbered(sides(scene, numbers))
    return numbers


def is_even(scene, numbers):
    """Tell whether these are the numbers of an even sorting."""
    if len(numbers) != scene.web.size:
        return False
    return numbered(sides(scene, numbers)) == numbered(numbers)


def folded(scene):
    """Return the scene with one place for each number of the folding."""
    numbers = folding(scene)
    picture = [0] * len(set(numbers))
    for number, state in zip(numbers, scene.picture):
        picture[number] = state
    pairs = [(numbers[a], numbers[b]) for a, b in scene.web.lines]
    return Scene(Web(len(picture), [(a, b) for a, b in pairs if a != b]), picture)
