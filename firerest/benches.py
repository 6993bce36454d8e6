"""Benches: where deeds are done, and trials that leave no trace."""

from firerest.beats import scene_of_masks
from firerest.errors import SamePlace
from firerest.far import far_course
from firerest.runs import masks_along, step, tally
from firerest.scenes import Scene, taken_out
from firerest.shapes import joined, parted
from firerest.webs import check_places


class Bench:
    """A scene that changes, with the beats that passed and the firings in them."""

    def __init__(self, scene):
        self.scene = scene
        self.beats = 0
        self.counts = (0,) * scene.web.size

    def advance(self, scene, beats, fired):
        """Let beats pass that lead to a scene, with these firings of each place."""
        self.scene = scene
        self.beats += beats
        self.counts = tuple([many + more for many, more in zip(self.counts, fired)])

    def run(self, beats):
        """Let the scene run alone, beat by beat."""
        web = self.scene.web
        along = masks_along(self.scene, beats, None)
        self.advance(scene_of_masks(web, along[-1]), beats, tally(web, along))

    def jump(self, beats):
        """Let the scene run alone for any number of beats."""
        scene, fired = far_course(self.scene, beats, None)
        self.advance(scene, beats, fired)

    def poke(self, places):
        """Let one beat pass in which the places are poked."""
        check_places(self.scene.web, places)
        scene = step(self.scene, places)
        self.advance(scene, 1, [1 if state == 1 else 0 for state in scene.picture])

    def cut(self, place):
        """Take a place out."""
        self.scene = taken_out(self.scene, (place,))

    def tie(self, a, b):
        """Join two places."""
        self.scene = Scene(joined(self.scene.web, a, b), self.scene.picture)

    def untie(self, a, b):
        """Take the line between two places away, if there is one."""
        web = self.scene.web
        check_places(web, (a, b))
        if a == b:
            raise SamePlace(a)
        if (a, b) in web:
            self.scene = Scene(parted(web, a, b), self.scene.picture)


class Trial:
    """What a `with` statement does on a bench, and takes back at its end."""

    def __init__(self, bench):
        self.bench = bench

    def __enter__(self):
        self.scene = self.bench.scene
        self.beats = self.bench.beats
        self.counts = self.bench.counts
        return self.bench

    def __exit__(self, kind, value, trace):
        bench = self.bench
        bench.scene = self.scene
        bench.beats = self.beats
        bench.counts = self.counts
