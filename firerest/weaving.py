"""Weaving: making the scene that the declarations of a sheet describe."""

from firerest.scenes import SIGNS, Scene
from firerest.webs import Web
from firerest.words import MAKERS, lines_made, places_made


class Woven:
    """The scene of a sheet, with the places that each name stands for."""

    def __init__(self, scene, names):
        self.scene = scene
        self.names = names


class Loom:
    """The places, lines and states that were made so far."""

    def __init__(self):
        self.spans = {}
        self.lines = []
        self.picture = []

    def make(self, maker, name, numbers):
        """Make new places with a name."""
        first = len(self.picture)
        many = places_made(maker, numbers)
        self.spans[name] = (first, many)
        self.lines.extend([(first + a, first + b) for a, b in lines_made(maker, numbers)])
        self.picture.extend([0] * many)

    def drop(self, place):
        """Take a place out."""
        self.lines = [line for line in self.lines if place not in line]
        self.picture[place] = 0

    def tell(self, name, signs):
        """Give the places of a name their states."""
        first, many = self.spans[name]
        self.picture[first:first + many] = [SIGNS.find(sign) for sign in signs]


def place_number(spans, place):
    """Return the number of the place with this name and index.

    `spans` has the first place and the number of places of each name.
    """
    name, index = place
    first, _ = spans[name]
    return first + index


def woven(sheet):
    """Return the scene that the declarations of the sheet make."""
    loom = Loom()
    for row in sheet.weave:
        weave_row(loom, row)
    scene = Scene(Web(len(loom.picture), loom.lines), loom.picture)
    return Woven(scene, tuple([(name, first, many) for name, (first, many) in loom.spans.items()]))


def weave_row(loom, row):
    """Do what a declaration says."""
    if row[0] in MAKERS:
        loom.make(row[0], row[1], row[2:])
    elif row[0] == "tie":
        loom.lines.append((place_number(loom.spans, row[1]), place_number(loom.spans, row[2])))
    elif row[0] == "drop":
        loom.drop(place_number(loom.spans, row[1]))
    else:
        loom.tell(row[1], row[2])
