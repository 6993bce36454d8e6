"""What the tests of sheets share: texts to read, and oracles that follow the document's words."""

import fractions
import itertools
import re

NAME = re.compile(r"[a-z]{1,8}")
NUMBER = re.compile(r"0|[1-9][0-9]{0,40}")
PLACE = re.compile(r"([a-z]{1,8})\.(0|[1-9][0-9]{0,40})")
SIGNS = re.compile(r"[.*o]+")
FAR = 10 ** 40

# The forms of the words behind the first one: N a name, P a place word, S a state word, W a sign
# word, and pairs for the bounds of numbers.
WEAVE = {"thread": ("N", (1, 60)), "ring": ("N", (3, 60)), "star": ("N", (1, 59)), "full": ("N", (1, 60)),
         "sheet": ("N", (1, 60), (1, 60)), "tube": ("N", (1, 60), (3, 60)), "tie": ("P", "P"),
         "drop": ("P",), "states": ("N", "W")}
DEEDS = {"run": ((0, FAR),), "poke": ("P",), "times": ((0, FAR),), "when": ("S", "P"), "try": (),
         "cut": ("P",), "tie": ("P", "P"), "untie": ("P", "P"), "show": ("N",), "beats": (), "count": ("P",),
         "fate": ("P",), "age": (), "else": (), "end": ()}
NEW = ("thread", "ring", "star", "full", "sheet", "tube")
BARRED = ("cut", "tie", "untie", "try", "show", "beats", "count", "fate", "age")
OPENING = ("times", "when", "try")


def value_of(form, word):
    """Return what a word means in a form, or None."""
    if form == "N":
        return word if NAME.fullmatch(word) else None
    if form == "P":
        found = PLACE.fullmatch(word)
        return (found[1], int(found[2])) if found else None
    if form == "S":
        return word if word in ("ready", "fired", "resting") else None
    if form == "W":
        return word if SIGNS.fullmatch(word) else None
    if NUMBER.fullmatch(word) and form[0] <= int(word) <= form[1]:
        return int(word)
    return None


def many_of(word, values):
    """Return how many places a declaration makes."""
    if word == "star":
        return values[1] + 1
    return values[1] * values[2] if len(values) == 3 else values[1]


class Reader:
    """An oracle for reading: it tells the tuples, or the first error with its line."""

    def __init__(self, text):
        self.sizes = {}
        self.weave = []
        self.top = []
        self.open = []
        self.in_deeds = False
        self.fault = None
        for number, line in enumerate(text.split("\n"), 1):
            words = line[:line.find("#")].split(" ") if "#" in line else line.split(" ")
            words = [word for word in words if word]
            if words:
                self.fault = self.look(number, words)
                if self.fault:
                    self.fault = (self.fault, number)
                    return
        if self.open:
            self.fault = ("OpenBlock", self.open[-1]["line"])

    def look(self, number, words):
        """Return the name of the error of a line, or take it in."""
        word, rest = words[0], words[1:]
        if not self.in_deeds and word == "do":
            self.in_deeds = True
            return "WordCount" if rest else None
        forms = (DEEDS if self.in_deeds else WEAVE).get(word)
        if forms is None:
            return "UnknownWord"
        if word == "poke" and rest:
            forms = forms * len(rest)
        if len(forms) != len(rest):
            return "WordCount"
        values = [value_of(form, item) for form, item in zip(forms, rest)]
        if None in values:
            return "BadWord"
        return self.sense(word, forms, values) or self.take(number, word, values)

    def sense(self, word, forms, values):
        """Return the name of the first error that only what stands above can tell."""
        if word in NEW:
            if values[0] in self.sizes:
                return "NameTaken"
            return "TooLarge" if sum(self.sizes.values()) + many_of(word, values) > 60 else None
        for form, value in zip(forms, values):
            if form == "N" and value not in self.sizes:
                return "UnknownName"
            if form == "P" and not value[1] < self.sizes.get(value[0], 0):
                return "UnknownName"
        if word == "states" and len(values[1]) != self.sizes[values[0]]:
            return "BadSigns"
        if word in ("tie", "untie") and values[0] == values[1]:
            return "BadTie"
        if self.in_deeds:
            if word in BARRED and any(block["word"] == "times" for block in self.open):
                return "Misplaced"
            if word in OPENING and len(self.open) == 8:
                return "Misplaced"
            if word in ("end", "else") and not self.open:
                return "Misplaced"
            if word == "else" and (self.open[-1]["word"] != "when" or self.open[-1]["others"] is not None):
                return "Misplaced"
        return None

    def take(self, number, word, values):
        """Take a line in."""
        if not self.in_deeds:
            self.weave.append((word,) + tuple(values))
            if word in NEW:
                self.sizes[values[0]] = many_of(word, values)
        elif word in OPENING:
            self.open.append({"line": number, "word": word, "values": values, "deeds": [], "others": None})
        elif word == "else":
            self.open[-1]["others"] = []
        elif word == "end":
            block = self.open.pop()
            deed = (block["word"],) + tuple(block["values"]) + (tuple(block["deeds"]),)
            self.put(deed + (tuple(block["others"] or ()),) if block["word"] == "when" else deed)
        elif word == "poke":
            self.put(("poke", tuple(values)))
        else:
            self.put((word,) + tuple(values))

    def put(self, deed):
        """Put a deed where it belongs."""
        if not self.open:
            self.top.append(deed)
        elif self.open[-1]["others"] is None:
            self.open[-1]["deeds"].append(deed)
        else:
            self.open[-1]["others"].append(deed)


# Texts

def random_weave(chance, most=20):
    """Return lines of declarations that are right, and the number of places of each name."""
    lines, sizes = [], {}
    names = ["a", "ring", "do", "end", "zz", "ready", "else"]
    chance.shuffle(names)
    for _ in range(chance.randint(0, 4)):
        word = chance.choice(NEW)
        values = [names[-1]] + [chance.randint(form[0], form[0] + 4) for form in WEAVE[word][1:]]
        if sum(sizes.values()) + many_of(word, values) > most:
            continue
        sizes[names.pop()] = many_of(word, values)
        lines.append(word + " " + " ".join(map(str, values)))
        for _ in range(chance.randint(0, 3)):
            lines += random_change(chance, sizes)
    return lines, sizes


def random_place(chance, sizes):
    """Return a place word."""
    name = chance.choice(sorted(sizes))
    return f"{name}.{chance.randrange(sizes[name])}"


def random_change(chance, sizes):
    """Return a line that changes what was declared."""
    kind = chance.choice(("tie", "states", "states", "drop"))
    if kind == "states":
        name = chance.choice(sorted(sizes))
        return [f"states {name} " + "".join(chance.choice("..*o") for _ in range(sizes[name]))]
    one, two = random_place(chance, sizes), random_place(chance, sizes)
    if kind == "drop":
        return ["drop " + one]
    return [] if one == two else [f"tie {one} {two}"]


def random_deeds(chance, sizes, many, depth=0, in_times=False, numbers=(0, 1, 2, 3)):
    """Return lines of deeds that are right."""
    found = []
    for _ in range(chance.randint(0, many)):
        kinds = ["run"]
        if sizes:
            kinds += ["poke", "poke"]
        if depth < 8:
            kinds += ["times"] + (["when", "when"] if sizes else [])
        if not in_times:
            kinds += ["beats", "age"] + (["try"] if depth < 8 else [])
            kinds += ["cut", "tie", "untie", "show", "count", "fate"] if sizes else []
        found += random_deed(chance, chance.choice(kinds), sizes, many, depth, in_times, numbers)
    return found


def told_at_the_end(text):
    """Return the text of a sheet with deeds that tell, a few beats later, how everything stands."""
    tail = ["run 2", "beats"] if "\ndo" in "\n" + text else []
    for name, many in sorted(Reader(text).sizes.items()) if tail else ():
        tail += [f"show {name}"] + [f"{word} {name}.{index}" for index in range(many) for word in ("count", "fate")]
    return "\n".join([text] + tail)


def random_deed(chance, kind, sizes, many, depth, in_times, numbers):
    """Return the lines of one deed."""
    def block(times=in_times):
        return random_deeds(chance, sizes, max(1, many - 1), depth + 1, times, numbers)
    if kind == "run":
        return [f"run {chance.choice(numbers)}"]
    if kind == "poke":
        return ["poke " + " ".join(random_place(chance, sizes) for _ in range(chance.randint(1, 3)))]
    if kind == "times":
        return [f"times {chance.choice(numbers)}"] + block(True) + ["end"]
    if kind == "when":
        others = chance.choice(([], ["else"], ["else"] + block()))
        state = chance.choice(("ready", "fired", "resting"))
        return [f"when {state} {random_place(chance, sizes)}"] + block() + others + ["end"]
    if kind == "try":
        return ["try"] + block() + ["end"]
    if kind in ("beats", "age"):
        return [kind]
    if kind == "show":
        return ["show " + chance.choice(sorted(sizes))]
    one, two = random_place(chance, sizes), random_place(chance, sizes)
    if kind in ("tie", "untie"):
        return [] if one == two else [f"{kind} {one} {two}"]
    return [f"{kind} {one}"]


def random_text(chance, many=4, numbers=(0, 1, 2, 3), most=20):
    """Return a text that is a sheet."""
    lines, sizes = random_weave(chance, most)
    if chance.random() < 0.9:
        lines += ["do"] + random_deeds(chance, sizes, many, numbers=numbers)
    return "\n".join(lines)


def roughened(chance, text):
    """Return the text with more spaces, remarks and lines without words."""
    found = []
    for line in text.split("\n"):
        words = line.split(" ")
        spaced = " " * chance.choice((0, 0, 1, 5)) + (" " * chance.choice((1, 1, 2, 4))).join(words)
        found.append(spaced + chance.choice(("", "", " ", "   ", "# end", " #x", " ## do # 1")))
        found += [chance.choice(("", "  ", "#", "  # thread a 2", "#do"))] * chance.choice((0, 0, 0, 1, 2))
    return "\n".join(found) + chance.choice(("", "\n", "\n\n  "))


# Worlds: what a sheet makes, and what is done in it

def woven_lines(word, numbers):
    """Return the lines between the new places of a declaration, by the words of point 65."""
    if word in ("thread", "ring"):
        pairs = {(place, place + 1) for place in range(numbers[0] - 1)}
        return pairs | ({(0, numbers[0] - 1)} if word == "ring" else set())
    if word == "star":
        return {(0, place) for place in range(1, numbers[0] + 1)}
    if word == "full":
        return set(itertools.combinations(range(numbers[0]), 2))
    height, width = numbers
    pairs = set()
    for i, j in itertools.product(range(height), range(width)):
        if j + 1 < width:
            pairs.add((i * width + j, i * width + j + 1))
        if i + 1 < height:
            pairs.add((i * width + j, (i + 1) * width + j))
    return pairs | ({(i * width, i * width + width - 1) for i in range(height)} if word == "tube" else set())


class World:
    """An oracle for weaving and for playing: it does beat by beat what the document says."""

    def __init__(self, weave):
        self.names, self.lines, self.picture = {}, set(), []
        for row in weave:
            self.declare(row)
        self.picture = tuple(self.picture)
        self.beats, self.counts = 0, (0,) * len(self.picture)
        self.printed, self.work = [], 0

    def declare(self, row):
        """Do a declaration."""
        word, rest = row[0], row[1:]
        if word in NEW:
            first = len(self.picture)
            self.picture += [0] * many_of(word, rest)
            self.names[rest[0]] = (first, len(self.picture) - first)
            self.lines |= {(first + a, first + b) for a, b in woven_lines(word, rest[1:])}
        elif word == "tie":
            self.lines.add(tuple(sorted((self.number(rest[0]), self.number(rest[1])))))
        elif word == "drop":
            self.picture[self.number(rest[0])] = 0
            self.lines = {line for line in self.lines if self.number(rest[0]) not in line}
        else:
            for index, sign in enumerate(rest[1]):
                self.picture[self.number((rest[0], index))] = ".*o".index(sign)

    def number(self, pair):
        """Return the number of a place."""
        return self.names[pair[0]][0] + pair[1]

    def near(self, place):
        """Return the neighbours of a place."""
        return {a + b - place for a, b in self.lines if place in (a, b)}

    def later(self, picture, poked=()):
        """Return the picture one beat later."""
        lit = {place for place, state in enumerate(picture) if state == 1}
        struck = set(poked) | {b for line in self.lines for a, b in (line, line[::-1]) if a in lit}
        return tuple((place in struck) * 1 if state == 0 else (2 if state == 1 else 0)
                     for place, state in enumerate(picture))

    def beat(self, poked=()):
        """Let one beat pass."""
        self.picture = self.later(self.picture, poked)
        self.beats += 1
        self.counts = tuple(many + (state == 1) for many, state in zip(self.counts, self.picture))

    def piece(self, start):
        """Return the piece of a place."""
        found, todo = {start}, [start]
        while todo:
            fresh = self.near(todo.pop()) - found
            found |= fresh
            todo += fresh
        return found

    def fate(self, place):
        """Return the words for the fate of a place's piece, by watching it until it comes back."""
        piece = self.piece(place)
        picture = tuple(state if other in piece else 0 for other, state in enumerate(self.picture))
        seen, fires, last = {}, 0, 0
        for beat in itertools.count():
            if beat and any(picture[other] == 1 for other in piece):
                last = beat
            fires += beat > 0 and picture[place] == 1
            if picture in seen:
                first, before = seen[picture]
                share = fractions.Fraction(fires - before, beat - first)
                if share == 0:
                    return f"silent {last}"
                return f"lasting {share.numerator}/{share.denominator}"
            seen[picture] = (beat, fires)
            picture = self.later(picture)

    def age(self):
        """Return the age in words: how far one can go back and come to the picture again."""
        picture, seen = self.later(self.picture), {self.picture}
        while picture not in seen:
            seen.add(picture)
            picture = self.later(picture)
        if picture == self.picture:
            return "always"
        swap = {0: 0, 1: 2, 2: 1}
        turned, beats = tuple(swap[state] for state in self.picture), 0
        while True:
            turned = self.later(turned)
            start = tuple(swap[state] for state in turned)
            for _ in range(beats + 1):
                start = self.later(start)
            if start != self.picture:
                return str(beats)
            beats += 1

    def play(self, deeds):
        """Do deeds."""
        for deed in deeds:
            self.work += 1
            getattr(self, "do_" + deed[0])(*deed[1:])

    def do_run(self, many):
        """Do the deed of this name, like the methods below."""
        self.work += many
        for _ in range(many):
            self.beat()

    def do_poke(self, places):
        self.beat([self.number(place) for place in places])

    def do_times(self, many, deeds):
        self.work += many
        for _ in range(many):
            self.play(deeds)

    def do_when(self, state, place, deeds, others):
        here = ("ready", "fired", "resting")[self.picture[self.number(place)]]
        self.play(deeds if here == state else others)

    def do_try(self, deeds):
        held = self.picture, self.lines, self.beats, self.counts
        self.play(deeds)
        self.picture, self.lines, self.beats, self.counts = held

    def do_cut(self, place):
        place = self.number(place)
        self.lines = {line for line in self.lines if place not in line}
        self.picture = self.picture[:place] + (0,) + self.picture[place + 1:]

    def do_tie(self, one, two):
        self.lines = self.lines | {tuple(sorted((self.number(one), self.number(two))))}

    def do_untie(self, one, two):
        self.lines = self.lines - {tuple(sorted((self.number(one), self.number(two))))}

    def do_show(self, name):
        first, many = self.names[name]
        signs = "".join(".*o"[state] for state in self.picture[first:first + many])
        self.printed.append(f"{name} {signs}")

    def do_beats(self):
        self.printed.append(f"beats {self.beats}")

    def do_count(self, place):
        self.printed.append(f"count {place[0]}.{place[1]} {self.counts[self.number(place)]}")

    def do_fate(self, place):
        self.printed.append(f"fate {place[0]}.{place[1]} {self.fate(self.number(place))}")

    def do_age(self):
        self.printed.append(f"age {self.age()}")


class FarWorld(World):
    """A world that skips rounds and beats as soon as the whole picture comes back."""

    def round_again(self, many, once):
        """Do something `many` times that depends on the picture alone."""
        seen, past = {}, []
        while many > 0:
            if self.picture in seen:
                start = seen[self.picture]
                length = len(past) - start
                _, beats, counts = past[start]
                rounds, many = divmod(many, length)
                self.counts = tuple(new + rounds * (new - old) for new, old in zip(self.counts, counts))
                self.beats += rounds * (self.beats - beats)
                seen = {}
                past = []
                if many == 0:
                    return
                for _ in range(many):
                    once()
                return
            seen[self.picture] = len(past)
            past.append((self.picture, self.beats, self.counts))
            once()
            many -= 1

    def do_run(self, many):
        """Do the deed of this name, like the method below."""
        self.round_again(many, self.beat)

    def do_times(self, many, deeds):
        self.round_again(many, lambda: self.play(deeds))
