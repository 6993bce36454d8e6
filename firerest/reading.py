"""Reading sheets from texts."""

from firerest.errors import BadSigns, BadTie, BadWord, Misplaced, NameTaken, OpenBlock, TooLarge
from firerest.errors import UnknownName, UnknownWord, WordCount
from firerest.sheets import Sheet
from firerest.words import DECLARATIONS, DEEDS, MAKERS, NOT_IN_TIMES, OPENERS, meaning, places_made

MOST_PLACES = 60
MOST_BLOCKS = 8


class Block:
    """A block that is not closed yet: what opened it, and the deeds in it."""

    def __init__(self, line, head):
        self.line = line
        self.head = head
        self.deeds = []
        self.others = None

    def take(self, deed):
        """Put a deed to those that are read now."""
        if self.others is None:
            self.deeds.append(deed)
        else:
            self.others.append(deed)

    def deed(self):
        """Return the block as a deed."""
        if self.head[0] == "when":
            return self.head + (self.deeds, self.others or ())
        return self.head + (self.deeds,)


def read_sheet(text):
    """Return the sheet that the text describes."""
    rows = rows_of(text)
    declared = rows_before_do(rows)
    many = {}
    weave = [read_declaration(line, words, many) for line, words in declared]
    if len(declared) < len(rows):
        line, words = rows[len(declared)]
        if len(words) > 1:
            raise WordCount(line)
    return Sheet(weave, read_deeds(rows[len(declared) + 1:], many))


def rows_of(text):
    """Return (number of the line, words) for each line with words."""
    found = []
    for number, line in enumerate(text.split("\n"), start=1):
        bare, _, _ = line.partition("#")
        words = [word for word in bare.split(" ") if word != ""]
        if len(words) > 0:
            found.append((number, words))
    return found


def rows_before_do(rows):
    """Return the rows before the first one that begins with `do`."""
    found = []
    for line, words in rows:
        if words[0] == "do":
            return found
        found.append((line, words))
    return found


def check_words(line, words, kinds):
    """Raise an error unless there are kinds for the words behind the first one, as many."""
    if kinds is None:
        raise UnknownWord(line)
    if len(words) - 1 != len(kinds):
        raise WordCount(line)


def meanings(line, words, kinds):
    """Return what the words behind the first one mean."""
    found = [meaning(kind, word) for kind, word in zip(kinds, words[1:])]
    if any([told is None for told in found]):
        raise BadWord(line)
    return tuple(found)


def read_declaration(line, words, many):
    """Return the tuple for a declaration.

    `many` has the number of places of each name; a name that is new is added.
    """
    kinds = DECLARATIONS.get(words[0])
    check_words(line, words, kinds)
    told = meanings(line, words, kinds)
    if words[0] in MAKERS:
        add_name(line, words[0], told, many)
    else:
        check_known(line, kinds, told, many)
        check_fits(line, words[0], told, many)
    return (words[0],) + told


def add_name(line, maker, told, many):
    """Add the name of a declaration that makes places."""
    name = told[0]
    if name in many:
        raise NameTaken(line)
    made = places_made(maker, told[1:])
    if sum(many.values()) + made > MOST_PLACES:
        raise TooLarge(line)
    many[name] = made


def check_known(line, kinds, told, many):
    """Raise `UnknownName` for a name or a place word that does not stand for places."""
    for kind, value in zip(kinds, told):
        if kind == "name" and value not in many:
            raise UnknownName(line)
        if kind == "place" and value[1] >= many.get(value[0], 0):
            raise UnknownName(line)


def check_fits(line, first, told, many):
    """Raise an error for a wrong number of signs, or for a line from a place to itself."""
    if first == "states" and len(told[1]) != many[told[0]]:
        raise BadSigns(line)
    if first in ("tie", "untie") and told[0] == told[1]:
        raise BadTie(line)


def deed_kinds(words):
    """Return the kinds of the words behind the first one, or None if no deed begins with it."""
    if words[0] == "poke":
        return ("place",) * max(1, len(words) - 1)
    return DEEDS.get(words[0])


def read_deeds(rows, many):
    """Return the deeds of the rows."""
    blocks = [Block(0, ("do",))]
    for line, words in rows:
        kinds = deed_kinds(words)
        check_words(line, words, kinds)
        told = meanings(line, words, kinds)
        check_known(line, kinds, told, many)
        check_fits(line, words[0], told, many)
        if is_misplaced(words[0], blocks):
            raise Misplaced(line)
        take_row(line, words[0], told, blocks)
    if len(blocks) > 1:
        raise OpenBlock(blocks[-1].line)
    return blocks[0].deeds


def is_misplaced(first, blocks):
    """Tell whether a line that begins with this word is not allowed in the blocks.

    The first of the blocks is the sheet itself.
    """
    if first == "end":
        return len(blocks) == 1
    if first == "else":
        return blocks[-1].head[0] != "when" or blocks[-1].others is not None
    if first in OPENERS and len(blocks) > MOST_BLOCKS:
        return True
    return first in NOT_IN_TIMES and any([block.head[0] == "times" for block in blocks])


def take_row(line, first, told, blocks):
    """Put what a line says into the blocks."""
    if first in OPENERS:
        blocks.append(Block(line, (first,) + told))
    elif first == "else":
        blocks[-1].others = []
    elif first == "end":
        closed = blocks.pop()
        blocks[-1].take(closed.deed())
    elif first == "poke":
        blocks[-1].take((first, told))
    else:
        blocks[-1].take((first,) + told)
