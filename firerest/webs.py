"""Webs: places that are joined by lines, and the walks over them."""

from firerest.errors import BadLine, NoPlace
from firerest.masks import near_masks, places_of


class Web:
    """The places 0 to `size - 1`, with lines between some of them."""

    def __init__(self, size, lines=()):
        check_lines(size, lines)
        self.size = size
        self.lines = tuple(sorted(set([(min(a, b), max(a, b)) for a, b in lines])))
        self.masks = near_masks(size, self.lines)
        self._near = tuple([places_of(mask) for mask in self.masks])

    def near(self, place):
        """Return the neighbours of a place, in ascending order."""
        check_places(self, (place,))
        return self._near[place]

    def __contains__(self, pair):
        a, b = pair
        return 0 <= a < self.size and b in self._near[a]

    def __len__(self):
        return len(self.lines)

    def __iter__(self):
        return iter(self.lines)

    def __add__(self, other):
        moved = [(a + self.size, b + self.size) for a, b in other.lines]
        return Web(self.size + other.size, list(self.lines) + moved)

    def __eq__(self, other):
        return isinstance(other, Web) and self.size == other.size and self.lines == other.lines


def check_lines(size, lines):
    """Raise `BadLine` for the first pair that cannot be a line."""
    for index, (a, b) in enumerate(lines):
        if not (0 <= a < size and 0 <= b < size) or a == b:
            raise BadLine(index)


def check_places(web, places):
    """Raise `NoPlace` for the first number that is not a place of the web."""
    for place in places:
        if not 0 <= place < web.size:
            raise NoPlace(place)


def walk_fault(web, walk):
    """Return the least index at which `walk` is not a walk, or None."""
    if len(walk) == 0:
        return 0
    for index, place in enumerate(walk):
        if not 0 <= place < web.size:
            return index
        if index > 0 and (walk[index - 1], place) not in web:
            return index
    return None


def is_walk(web, walk):
    """Tell whether `walk` is a walk of the web."""
    return walk_fault(web, walk) is None


def is_ring(web, walk):
    """Tell whether `walk` is a walk of the web that comes back to its start."""
    return len(walk) > 1 and walk[0] == walk[-1] and is_walk(web, walk)
