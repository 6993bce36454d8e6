"""All errors of the program."""


class FirerestError(ValueError):
    """The base class of all errors of the program."""


class NoPlace(FirerestError):
    """A number that was passed as a place is not a place."""

    def __init__(self, place):
        self.place = place


class BadLine(FirerestError):
    """The pair with this index is not a line of the web."""

    def __init__(self, index):
        self.index = index


class SamePlace(FirerestError):
    """A place cannot be joined to itself."""

    def __init__(self, place):
        self.place = place


class NoLine(FirerestError):
    """No line joins the two places."""

    def __init__(self, a, b):
        self.a = a
        self.b = b


class BadPicture(FirerestError):
    """The picture is wrong at this index."""

    def __init__(self, index):
        self.index = index


class BadPoke(FirerestError):
    """The pair with this index is not a poke."""

    def __init__(self, index):
        self.index = index


class NotAWalk(FirerestError):
    """The sequence is no walk from this index on."""

    def __init__(self, index):
        self.index = index


class BadTable(FirerestError):
    """The row with this index has a wrong number of items."""

    def __init__(self, index):
        self.index = index


class SizesDiffer(FirerestError):
    """Two tables have these different sizes."""

    def __init__(self, one, two):
        self.one = one
        self.two = two


class NotATrail(FirerestError):
    """The sequence is no trail from this index on."""

    def __init__(self, index):
        self.index = index


class BadRow(FirerestError):
    """The row with this index cannot stand in a row list."""

    def __init__(self, index):
        self.index = index


class WebsDiffer(FirerestError):
    """Two scenes do not have the same web."""


class BadRecord(FirerestError):
    """The record with this index is wrong."""

    def __init__(self, index):
        self.index = index


class NotAllSuspects(FirerestError):
    """Some place of the scene is not a suspect."""


class TooLong(FirerestError):
    """The work is greater than this limit."""

    def __init__(self, limit):
        self.limit = limit


class SheetError(FirerestError):
    """A text is not a sheet, because of the line with this number."""

    def __init__(self, line):
        self.line = line


class UnknownWord(SheetError):
    """The first word of the line is not known here."""


class WordCount(SheetError):
    """The line has a wrong number of words."""


class BadWord(SheetError):
    """An argument has a wrong form or is out of range."""


class NameTaken(SheetError):
    """The name stands for places already."""


class TooLarge(SheetError):
    """There would be too many places."""


class UnknownName(SheetError):
    """A name or a place word does not stand for places."""


class BadSigns(SheetError):
    """The number of signs is not the number of places."""


class BadTie(SheetError):
    """Both places of a line are the same."""


class Misplaced(SheetError):
    """The line is not allowed where it stands."""


class OpenBlock(SheetError):
    """The block that this line opened is not closed."""
