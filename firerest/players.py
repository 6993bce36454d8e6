"""Players: they do the deeds of a sheet on a bench, and print."""

from firerest.backs import age
from firerest.benches import Bench, Trial
from firerest.fates import fate_of
from firerest.scenes import picture_text
from firerest.shapes import piece_of
from firerest.shares import share
from firerest.weaving import place_number, woven
from firerest.words import STATES, place_text


class Player:
    """A bench with the names of its places and the lines that were printed."""

    def __init__(self, sheet):
        made = woven(sheet)
        self.bench = Bench(made.scene)
        self.spans = {name: (first, many) for name, first, many in made.names}
        self.printed = []

    def number(self, place):
        """Return the number of the place with this name and index."""
        return place_number(self.spans, place)

    def do_all(self, deeds):
        """Do the deeds one after another."""
        for deed in deeds:
            self.do(deed)

    def do(self, deed):
        """Do one deed."""
        word = deed[0]
        if word == "run":
            self.do_run(deed[1])
        elif word == "poke":
            self.bench.poke([self.number(place) for place in deed[1]])
        elif word == "times":
            self.do_times(deed)
        elif word == "when":
            state = self.bench.scene.picture[self.number(deed[2])]
            self.do_all(deed[3] if STATES[state] == deed[1] else deed[4])
        elif word == "try":
            with Trial(self.bench):
                self.do_all(deed[1])
        elif word in ("cut", "tie", "untie"):
            self.change(word, [self.number(place) for place in deed[1:]])
        else:
            self.printed.append(" ".join(self.words_of(deed)))

    def do_run(self, beats):
        """Let beats pass without pokes."""
        self.bench.run(beats)

    def do_times(self, deed):
        """Do the deeds of a block again and again."""
        for _ in range(deed[1]):
            self.do_all(deed[2])

    def change(self, word, places):
        """Change the lines of the web."""
        if word == "cut":
            self.bench.cut(places[0])
        elif word == "tie":
            self.bench.tie(places[0], places[1])
        else:
            self.bench.untie(places[0], places[1])

    def words_of(self, deed):
        """Return the words that a deed prints."""
        scene = self.bench.scene
        if deed[0] == "show":
            first, many = self.spans[deed[1]]
            return [deed[1], picture_text(scene)[first:first + many]]
        if deed[0] == "beats":
            return ["beats", str(self.bench.beats)]
        if deed[0] == "age":
            beats = age(scene)
            return ["age", "always" if beats is None else str(beats)]
        place = self.number(deed[1])
        if deed[0] == "count":
            return ["count", place_text(deed[1]), str(self.bench.counts[place])]
        return ["fate", place_text(deed[1])] + fate_words(scene, place)


def fate_words(scene, place):
    """Return the words for what becomes of the piece of a place."""
    fate = fate_of(scene, piece_of(scene.web, place))
    if fate.silent:
        return ["silent", str(fate.last)]
    p, q = share(scene, place)
    return ["lasting", str(p) + "/" + str(q)]
