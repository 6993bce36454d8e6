"""Row lists: long walks with stays, put together from shorter ones."""

from firerest.errors import BadRow
from firerest.leads import state_lead
from firerest.rounds import NO_POKES, masks_around, masks_by_piece, round_index
from firerest.trails import cause
from firerest.webs import check_places


class RowList:
    """A row list that grows and has each row once."""

    def __init__(self):
        self.rows = []
        self._indexes = {}

    def put(self, row):
        """Return the index of the row, which is added if it is new."""
        if row not in self._indexes:
            self._indexes[row] = len(self.rows)
            self.rows.append(row)
        return self._indexes[row]

    def both(self, i, j):
        """Return the index of a row for two walks; None stands for no beats at all."""
        if i is None:
            return j
        if j is None:
            return i
        return self.put(("both", i, j))

    def walk(self, places):
        """Return the index of a row that goes from place to place."""
        found = None
        for here, there in zip(places, places[1:]):
            row = ("stay", here) if here == there else ("step", here, there)
            found = self.both(found, self.put(row))
        return found

    def times(self, index, many):
        """Return the index of a row that goes the walk of a row `many` times."""
        found = None
        while many > 0:
            if many & 1 == 1:
                found = self.both(found, index)
            many = many >> 1
            if many > 0:
                index = self.both(index, index)
        return found


def single_facts(scene, row):
    """Return the facts of a stay or a step, or None if the row is neither."""
    size = scene.web.size
    if row[0] == "stay" and len(row) == 2 and 0 <= row[1] < size:
        return row[1], row[1], 1, 0
    if row[0] == "step" and len(row) == 3 and (row[1], row[2]) in scene.web:
        return row[1], row[2], 1, state_lead(scene.picture[row[1]], scene.picture[row[2]])
    return None


def both_facts(found, row):
    """Return the facts of a row of two walks whose facts are found, or None."""
    if row[0] != "both" or len(row) != 3:
        return None
    if not (0 <= row[1] < len(found) and 0 <= row[2] < len(found)):
        return None
    first, middle, beats, gain = found[row[1]]
    start, last, more_beats, more_gain = found[row[2]]
    if middle != start:
        return None
    return first, last, beats + more_beats, gain + more_gain


def row_facts(scene, rows):
    """Return first place, last place, beats and gain of each row."""
    found = []
    for index, row in enumerate(rows):
        facts = single_facts(scene, row) or both_facts(found, row)
        if facts is None:
            raise BadRow(index)
        found.append(facts)
    return tuple(found)


class WayBack:
    """The way that follows the causes of what a place is at a far beat, left alone."""

    def __init__(self, web, masks, place, beats):
        self.web = web
        self.along, self.first = masks_around(web.masks, masks, NO_POKES, beats)
        self.place = place
        self.beat = beats

    def now(self):
        """Return the index of the masks of this moment."""
        return round_index(self.along, self.first, self.beat)

    def back(self):
        """Go one beat back and return the place."""
        before = round_index(self.along, self.first, self.beat - 1)
        masks = self.along[self.now()]
        self.place = cause(self.web.masks, self.place, masks, self.along[before])
        self.beat -= 1
        return self.place

    def until_round(self):
        """Return the places as far as the way comes round, and where the round began.

        The second value is None if it reaches the beats that never come back.
        """
        places = [self.place]
        seen = {}
        while self.first is not None and self.beat > self.first:
            moment = (self.place, self.now())
            if moment in seen:
                return places, seen[moment]
            seen[moment] = len(places) - 1
            places.append(self.back())
        return places, None

    def rest(self):
        """Return the places down to beat 0."""
        places = [self.place]
        while self.beat > 0:
            places.append(self.back())
        return places


def long_walk(scene, place, beats):
    """Return a row list with a walk that gains as often as the place fires."""
    web = scene.web
    check_places(web, (place,))
    masks = [own for inside, own in masks_by_piece(scene) if inside >> place & 1 == 1][0]
    way = WayBack(web, masks, place, beats)
    found = RowList()
    places, start = way.until_round()
    last = found.walk(places)
    if start is not None:
        # Rounds are not gone one by one: only the beats behind them are left.
        rounds, left = divmod(way.beat - way.first, len(places) - 1 - start)
        way.beat = way.first + left
        last = found.both(last, found.times(found.walk(places[start:]), rounds))
    last = found.both(last, found.walk(way.rest()))
    return () if last is None else tuple(found.rows[:last + 1])
