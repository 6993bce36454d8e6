"""Books of pokes, and paces whose pokes come round for ever."""

from firerest.errors import BadPoke


class Book:
    """A set of pokes: pairs of a beat and a place."""

    def __init__(self, pokes=()):
        for index, (beat, place) in enumerate(pokes):
            if beat < 0 or place < 0:
                raise BadPoke(index)
        self.pokes = in_order(pokes)
        self._places = places_by_time(self.pokes)

    @property
    def end(self):
        """One more than the last beat with a poke, or 0."""
        return self.pokes[-1][0] + 1 if self.pokes else 0

    def at(self, beat):
        """Return the places that are poked at a beat, in ascending order."""
        return self._places.get(beat, ())

    def until(self, beats):
        """Return the book of the pokes at beats below `beats`."""
        return Book([(beat, place) for beat, place in self.pokes if beat < beats])

    def since(self, beats):
        """Return the book of the later pokes, `beats` beats earlier."""
        return Book([(beat - beats, place) for beat, place in self.pokes if beat >= beats])

    def about(self, beats):
        """Return the book of the pokes below `beats`, in the reverse order of beats."""
        return Book([(beats - 1 - beat, place) for beat, place in self.pokes if beat < beats])

    def within(self, other):
        """Tell whether every poke of this book is a poke of the other one."""
        return all([poke in other for poke in self.pokes])

    def __rshift__(self, other):
        return Book([(beat + other, place) for beat, place in self.pokes])

    def __or__(self, other):
        return Book(list(self.pokes) + list(other.pokes))

    def __contains__(self, poke):
        beat, place = poke
        return place in self._places.get(beat, ())

    def __len__(self):
        return len(self.pokes)

    def __iter__(self):
        return iter(self.pokes)

    def __eq__(self, other):
        return isinstance(other, Book) and self.pokes == other.pokes


class Pace:
    """Pokes that come round after every `period` beats: pairs of a phase and a place."""

    def __init__(self, period, pokes=()):
        for index, (phase, place) in enumerate(pokes):
            if not 0 <= phase < period or place < 0:
                raise BadPoke(index)
        self.period = period
        self.pokes = in_order(pokes)
        self._places = places_by_time(self.pokes)

    def at(self, beat):
        """Return the places that are poked at a beat, in ascending order."""
        return self._places.get(beat % self.period, ())

    def book(self, beats):
        """Return the book of all pokes at beats below `beats`."""
        return Book([(beat, place) for beat in range(beats) for place in self.at(beat)])

    def since(self, beats):
        """Return the pace that pokes at beat 0 what this one pokes at beat `beats`."""
        moved = [((phase - beats) % self.period, place) for phase, place in self.pokes]
        return Pace(self.period, moved)

    def __eq__(self, other):
        return isinstance(other, Pace) and self.period == other.period and self.pokes == other.pokes


def in_order(pokes):
    """Return the pokes as pairs, each once, in ascending order."""
    return tuple(sorted(set([(time, place) for time, place in pokes])))


def places_by_time(pokes):
    """Return a dict from each beat or phase with pokes to its places."""
    places = {}
    for time, place in pokes:
        places.setdefault(time, []).append(place)
    return {time: tuple(row) for time, row in places.items()}


def given_book(book):
    """Return the book that was passed; None stands for one without pokes."""
    return Book() if book is None else book


def given_pace(pace):
    """Return the pace that was passed; None stands for period 1 without pokes."""
    return Pace(1) if pace is None else pace
