"""The class of sheets: point 67."""

import unittest

from firerest.sheets import Sheet
from tests.support import OTHERS, Case

WEAVE = [["ring", "a", 4], ["states", "a", ".*o."], ["tie", ["a", 0], ["a", 2]]]
DEEDS = [["times", 2, [["poke", [["a", 0], ["a", 3]]], ["times", 0, []]]],
         ["when", "fired", ["a", 1], [["try", [["age"]]]], []], ["show", "a"]]


def as_tuples(value):
    """Return the value with tuples at every level."""
    return tuple(as_tuples(item) for item in value) if isinstance(value, list) else value


class SheetTest(Case):

    def test_fields(self):
        for weave, deeds in ((WEAVE, DEEDS), ([], []), (WEAVE, []), ([], DEEDS)):
            sheet = self.ask(Sheet, weave, deeds)
            self.same(sheet.weave, as_tuples(weave))
            self.same(sheet.deeds, as_tuples(deeds))
            named = Sheet(deeds=deeds, weave=weave)
            self.same((named.weave, named.deeds), (sheet.weave, sheet.deeds))

    def test_later_changes(self):
        deeds = [["times", 2, [["poke", [["a", 0]]]]]]
        weave = [["tie", ["a", 0], ["a", 2]]]
        sheet, other = Sheet(weave, deeds), Sheet(as_tuples(weave), as_tuples(deeds))
        deeds[0][2][0][1].append(["a", 1])
        deeds[0][2].append(["run", 1])
        weave[0][1][1] = 1
        weave.append(["drop", ["a", 0]])
        self.equal(sheet, other)
        self.same(sheet.deeds, (("times", 2, (("poke", (("a", 0),)),)),))
        self.same(sheet.weave, (("tie", ("a", 0), ("a", 2)),))

    def test_equal(self):
        self.equal(Sheet(WEAVE, DEEDS), Sheet(as_tuples(WEAVE), as_tuples(DEEDS)))
        self.equal(Sheet((), ()), Sheet([], []))
        self.unequal(Sheet(WEAVE, DEEDS), Sheet(WEAVE, DEEDS[:2]))
        self.unequal(Sheet(WEAVE, DEEDS), Sheet(WEAVE[:2], DEEDS))
        self.unequal(Sheet(WEAVE, DEEDS), Sheet(WEAVE, DEEDS[::-1]))
        self.unequal(Sheet(WEAVE, []), Sheet([], WEAVE))
        self.unequal(Sheet([["thread", "a", 2]], []), Sheet([["thread", "a", 3]], []))
        self.unequal(Sheet([], [["times", 2, []]]), Sheet([], [["times", 2, [["run", 1]]]]))

    def test_other_kinds(self):
        sheet = Sheet(WEAVE, DEEDS)
        for other in OTHERS + ((sheet.weave, sheet.deeds), [sheet], sheet.weave):
            self.unequal(sheet, other)
        self.unequal(Sheet([], []), ((), ()))


if __name__ == "__main__":
    unittest.main()
