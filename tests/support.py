"""What several tests share: checks of kinds, and oracles of their own.

The oracles follow the words of the document step by step; they use nothing
of the program but the fields of its objects.
"""

import itertools
import random
import unittest

from firerest import errors
from firerest.scenes import Scene
from firerest.webs import Web

FAR = 10 ** 40

FIELDS = {
    "NoPlace": ("place",), "BadLine": ("index",), "SamePlace": ("place",), "NoLine": ("a", "b"),
    "BadPicture": ("index",), "BadPoke": ("index",), "NotAWalk": ("index",),
    "BadTable": ("index",), "SizesDiffer": ("one", "two"), "NotATrail": ("index",),
    "BadRow": ("index",), "WebsDiffer": (), "BadRecord": ("index",), "NotAllSuspects": (),
    "TooLong": ("limit",),
}
SHEET_ERRORS = (
    "UnknownWord", "WordCount", "BadWord", "NameTaken", "TooLarge", "UnknownName", "BadSigns",
    "BadTie", "Misplaced", "OpenBlock",
)
FIELDS.update({name: ("line",) for name in SHEET_ERRORS})

# Each is passed for a place of a web with this size, which it is not.
NO_PLACES = (-1, -2, -10 ** 30, 10 ** 30, -FAR - 1)

# The fields of the objects of each class.
HELD = {
    "Web": ("size", "lines"), "Scene": ("web", "picture"), "Book": ("pokes",),
    "Pace": ("period", "pokes"), "Table": ("rows", "size"),
    "Fate": ("places", "silent", "heights", "ring", "totals", "lasts", "last", "quiet"),
    "SharePaper": ("share", "ring", "slopes"), "PacedPaper": ("share", "ring", "slopes"),
    "Repeat": ("first", "period", "gains"), "Wish": ("scene", "ring"),
    "Leading": ("book", "ring", "place", "lag", "waits"),
    "Watch": ("scene", "beats", "records", "suspects"), "Cuts": ("places", "tree"),
    "Sheet": ("weave", "deeds"), "Woven": ("scene", "names"), "Bench": ("scene", "beats", "counts"),
}

# Nothing of the program equals one of these.
OTHERS = (None, 0, 1, True, "", "web", (), [], (0, ()), {}, 3, object())


def dressed(value, kinds):
    """Return the value with each sequence at depth `d` as `kinds[d]`, in turn."""
    if isinstance(value, (list, tuple)):
        later = kinds[1:] + kinds[:1]
        return kinds[0]([dressed(item, later) for item in value])
    return value


def spoil(value):
    """Change every list in the value."""
    if isinstance(value, (list, tuple)):
        for item in value:
            spoil(item)
    if isinstance(value, list):
        value.reverse()
        value.append(7)
        value.append((7, 7))


def shown(value):
    """Return the value with all that its objects hold, and with its kinds."""
    name = type(value).__name__
    if isinstance(value, (list, tuple)):
        return (name, [shown(item) for item in value])
    if name in HELD:
        return (name, [shown(getattr(value, field)) for field in HELD[name]])
    return (name, value)


def has_list(value):
    """Tell whether a list stands anywhere in what `shown` returned."""
    kind, held = value
    return kind == "list" or (isinstance(held, list) and any(has_list(item) for item in held))


class Case(unittest.TestCase):
    """A test case with the checks that hold for all functions."""

    def ask(self, function, *arguments, **named):
        """Return the answer, after asking with lists and with tuples at every level."""
        plain = [dressed(item, (tuple,)) for item in arguments]
        before = shown(plain)
        answer = function(*plain, **named)
        self.assertEqual(shown(plain), before)
        self.assertFalse(has_list(shown(answer)), answer)
        for kinds in ((list,), (list, tuple), (tuple, list)):
            passed = [dressed(item, kinds) for item in arguments]
            before = shown(passed)
            other = function(*passed, **named)
            self.assertEqual(shown(passed), before)
            spoil(passed)
            self.assertEqual(shown(other), shown(answer))
        self.assertEqual(shown(function(*plain, **named)), shown(answer))
        return answer

    def same(self, found, wanted):
        """Check that both values are equal and of the same kinds."""
        self.assertEqual(shown(found), shown(wanted))

    def fails(self, name, values, function, *arguments, **named):
        """Check that the call raises the error `name` with these fields."""
        for kinds in ((tuple,), (list,)):
            passed = [dressed(item, kinds) for item in arguments]
            before = shown(passed)
            with self.assertRaises(errors.FirerestError) as held:
                function(*passed, **named)
            error = held.exception
            self.assertIs(type(error), getattr(errors, name), repr(error))
            fields = tuple(getattr(error, field) for field in FIELDS[name])
            self.assertEqual(fields, values)
            self.assertEqual(shown(passed), before)

    def equal(self, one, two):
        """Check that `==` is True and `!=` is False, both ways."""
        self.assertIs(one == two, True)
        self.assertIs(two == one, True)
        self.assertIs(one != two, False)
        self.assertIs(two != one, False)

    def unequal(self, one, two):
        """Check that `==` is False and `!=` is True, both ways."""
        self.assertIs(one == two, False)
        self.assertIs(two == one, False)
        self.assertIs(one != two, True)
        self.assertIs(two != one, True)


# Webs and scenes to ask about

def every_web(size):
    """Return all webs with this size."""
    pairs = list(itertools.combinations(range(size), 2))
    found = []
    for many in range(len(pairs) + 1):
        for lines in itertools.combinations(pairs, many):
            found.append(Web(size, lines))
    return found


def random_web(chance, size, many):
    """Return a web with at most `many` lines."""
    lines = []
    for _ in range(many if size > 1 else 0):
        a, b = chance.sample(range(size), 2)
        lines.append((a, b))
    return Web(size, lines)


def random_scene(chance, size, many):
    """Return a scene of such a web, with any states."""
    return Scene(random_web(chance, size, many), [chance.randrange(3) for _ in range(size)])


def random_scenes(seed, many, most):
    """Return scenes with 0 to `most` places, with few and with many lines."""
    chance = random.Random(seed)
    found = []
    for _ in range(many):
        size = chance.randint(0, most)
        found.append(random_scene(chance, size, chance.choice((size // 2, size, 2 * size))))
    return found


def ring_lines(size, first=0):
    """Return the lines of a ring of `size` places from `first` on."""
    return [(first + i, first + (i + 1) % size) for i in range(size)]


def thread_lines(size, first=0):
    """Return the lines of a thread of `size` places from `first` on."""
    return [(first + i, first + i + 1) for i in range(size - 1)]


def wave_picture(size):
    """Return the picture of a ring on which one wave goes round for ever."""
    return [1, 2] + [0] * (size - 2)


def ring_scene(*sizes):
    """Return rings beside one another, with one wave on each."""
    lines, picture = [], []
    for size in sizes:
        lines += ring_lines(size, len(picture))
        picture += wave_picture(size)
    return Scene(Web(len(picture), lines), picture)


def random_pokes(chance, many, last, size):
    """Return pokes, some of them at numbers that are no places of `size`."""
    return [(chance.randint(0, last), chance.randint(0, size + 2)) for _ in range(many)]


# Oracles for webs

def near_of(web):
    """Return the neighbours of each place, found from the field `lines` alone."""
    near = {place: [] for place in range(web.size)}
    for a, b in web.lines:
        near[a].append(b)
        near[b].append(a)
    return {place: sorted(near[place]) for place in near}


def lengths_from(web, start, without=()):
    """Return the length of a shortest walk to each place that can be reached."""
    near = near_of(web)
    found = {start: 0}
    last = [start]
    while last:
        fresh = []
        for place in last:
            for other in near[place]:
                if other not in found and other not in without:
                    found[other] = found[place] + 1
                    fresh.append(other)
        last = fresh
    return found


def pieces_of(web):
    """Return the pieces of the web."""
    return sorted({tuple(sorted(lengths_from(web, place))) for place in range(web.size)})


def rings_within(web, most):
    """Return all rings of the web with at most `most` steps."""
    near = near_of(web)
    found = []
    walks = [(place,) for place in range(web.size)]
    for _ in range(most):
        walks = [walk + (other,) for walk in walks for other in near[walk[-1]]]
        found += [walk for walk in walks if walk[0] == walk[-1]]
    return found


# Oracles for runs

def next_picture(near, picture, poked):
    """Return the states one beat later."""
    found = []
    for place, state in enumerate(picture):
        if state == 1:
            found.append(2)
        elif state == 2:
            found.append(0)
        elif place in poked or any(picture[other] == 1 for other in near[place]):
            found.append(1)
        else:
            found.append(0)
    return tuple(found)


def pictures_of(scene, beats, pokes=()):
    """Return the pictures at the beats 0 to `beats`."""
    near = near_of(scene.web)
    poked = {}
    for beat, place in pokes:
        poked.setdefault(beat, set()).add(place)
    found = [tuple(scene.picture)]
    for beat in range(beats):
        found.append(next_picture(near, found[-1], poked.get(beat, ())))
    return found


def counts_of(pictures):
    """Return how often each place fires behind the first of the pictures."""
    return tuple(sum(1 for picture in pictures[1:] if picture[place] == 1)
                 for place in range(len(pictures[0])))


def turns_of(pictures):
    """Return how often the state of each place changes along the pictures."""
    return tuple(sum(1 for old, new in zip(pictures, pictures[1:]) if old[place] != new[place])
                 for place in range(len(pictures[0])))


def lead_of(scene, a, b):
    """Return the lead from `a` to its neighbour `b`."""
    return {(0, 1): 1, (1, 0): -1}.get((scene.picture[a], scene.picture[b]), 0)


def gap_of(scene, a, b):
    """Return the gap from `a` to its neighbour `b`."""
    for found in (-1, 0, 1):
        if (scene.picture[b] - scene.picture[a] - found) % 3 == 0:
            return found


def sum_of(step, scene, walk):
    """Return the sum over the steps of a walk, by `lead_of` or `gap_of`."""
    return sum(step(scene, a, b) for a, b in zip(walk, walk[1:]))


# Oracles for watches

def subsets(items):
    """Return all subsets of the items, as tuples."""
    return [chosen for many in range(len(items) + 1) for chosen in itertools.combinations(items, many)]


def runs_with(scene, beats, suspects):
    """Return (pokes, pictures) for every book of the suspects that pokes before `beats`."""
    near = near_of(scene.web)
    runs = [((), (tuple(scene.picture),))]
    for beat in range(beats):
        runs = [(pokes + tuple((beat, place) for place in poked),
                 pictures + (next_picture(near, pictures[-1], poked),))
                for pokes, pictures in runs for poked in subsets(suspects)]
    return runs


def shows_records(pictures, records):
    """Tell whether the pictures show what was recorded."""
    return all(tuple(picture[place] for picture in pictures) == tuple(states)
               for place, states in records)


def records_of(scene, beats, pokes, places):
    """Return the records of some places in a run."""
    pictures = pictures_of(scene, beats, pokes)
    return [(place, tuple(picture[place] for picture in pictures)) for place in places]


def random_course(chance, state, beats):
    """Return states that a place may have one after another, whatever is around it."""
    found = [state]
    for _ in range(beats):
        found.append((found[-1] + 1) % 3 if found[-1] else chance.choice((0, 0, 1)))
    return tuple(found)


def random_records(chance, scene, beats, suspects):
    """Return records that may have a story of the suspects, or may have none."""
    size = scene.web.size
    places = chance.sample(range(size), chance.randint(0, min(size, chance.choice((1, 2, 3, 60)))))
    way = chance.randrange(4)
    if way == 0:
        return [(place, random_course(chance, scene.picture[place], beats)) for place in places]
    pokers = suspects if way < 3 else range(size)
    times = chance.choice((1, 3, beats + 1))
    pokes = [(chance.randrange(beats), chance.choice(pokers)) for _ in range(times) if pokers and beats]
    return records_of(scene, beats, pokes, places)
