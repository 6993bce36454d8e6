"""The words of sheets: which lines there are, and what their words mean."""

from firerest.scenes import SIGNS

LETTERS = "abcdefghijklmnopqrstuvwxyz"
DIGITS = "0123456789"
STATES = ("ready", "fired", "resting")

# The kinds of the words behind the first one; `poke` stands nowhere, for it has any number of them.
DECLARATIONS = {
    "thread": ("name", "side"),
    "ring": ("name", "round"),
    "star": ("name", "rays"),
    "full": ("name", "side"),
    "sheet": ("name", "side", "side"),
    "tube": ("name", "side", "round"),
    "tie": ("place", "place"),
    "drop": ("place",),
    "states": ("name", "signs"),
}
DEEDS = {
    "run": ("far",),
    "times": ("far",),
    "when": ("state", "place"),
    "try": (),
    "cut": ("place",),
    "tie": ("place", "place"),
    "untie": ("place", "place"),
    "show": ("name",),
    "beats": (),
    "count": ("place",),
    "fate": ("place",),
    "age": (),
    "else": (),
    "end": (),
}
MAKERS = ("thread", "ring", "star", "full", "sheet", "tube")
OPENERS = ("times", "when", "try")
NOT_IN_TIMES = ("cut", "tie", "untie", "try", "show", "beats", "count", "fate", "age")

# The least and the greatest number of each kind.
RANGES = {"side": (1, 60), "round": (3, 60), "rays": (1, 59), "far": (0, 10 ** 40)}


def is_of(word, characters):
    """Tell whether a word has at least one character, and only these."""
    return word != "" and all([character in characters for character in word])


def is_name(word):
    """Tell whether a word is a name."""
    return len(word) <= 8 and is_of(word, LETTERS)


def number_of(word):
    """Return the number that a word is, or None."""
    if len(word) > 41 or not is_of(word, DIGITS) or (word[0] == "0" and word != "0"):
        return None
    return int(word)


def place_of(word):
    """Return the name and the number of a place word, or None."""
    name, _, digits = word.partition(".")
    number = number_of(digits)
    return (name, number) if is_name(name) and number is not None else None


def meaning(kind, word):
    """Return what a word of this kind means, or None if it has not the form or the range."""
    if kind == "place":
        return place_of(word)
    if kind == "name":
        return word if is_name(word) else None
    if kind == "state":
        return word if word in STATES else None
    if kind == "signs":
        return word if is_of(word, SIGNS) else None
    least, most = RANGES[kind]
    number = number_of(word)
    return number if number is not None and least <= number <= most else None


def place_text(place):
    """Return the place word for a name and a number."""
    name, number = place
    return name + "." + str(number)


def places_made(maker, numbers):
    """Return how many places a declaration makes."""
    many = 1
    for number in numbers:
        many = many * number
    return many + 1 if maker == "star" else many


def lines_made(maker, numbers):
    """Return the lines between the places that a declaration makes, counted from 0."""
    many = places_made(maker, numbers)
    if maker == "full":
        return [(a, b) for b in range(many) for a in range(b)]
    if maker == "star":
        return [(0, ray) for ray in range(1, many)]
    # A thread is a sheet with one row, and a ring is a tube with one row.
    width = numbers[-1]
    lines = [(place, place + 1) for place in range(many) if (place + 1) % width > 0]
    lines.extend([(place, place + width) for place in range(many - width)])
    if maker in ("ring", "tube"):
        lines.extend([(place, place + width - 1) for place in range(0, many, width)])
    return lines
