"""Writing sheets: point 69."""

import random
import unittest

from firerest.reading import read_sheet
from firerest.sheets import Sheet
from firerest.writing import write_sheet
from tests.sheet_support import FAR, Reader, random_text, roughened
from tests.support import Case


def written(sheet):
    """Return the text that point 69 describes."""
    def words(row):
        return " ".join(f"{item[0]}.{item[1]}" if isinstance(item, tuple) else str(item) for item in row)

    def block(deeds, depth):
        for deed in deeds:
            space = "  " * depth
            if deed[0] == "poke":
                yield space + words(("poke",) + deed[1])
            elif deed[0] == "when":
                yield space + words(deed[:3])
                yield from block(deed[3], depth + 1)
                if deed[4]:
                    yield space + "else"
                    yield from block(deed[4], depth + 1)
                yield space + "end"
            elif deed[0] in ("times", "try"):
                yield space + words(deed[:-1])
                yield from block(deed[-1], depth + 1)
                yield space + "end"
            else:
                yield space + words(deed)

    lines = [words(row) for row in sheet.weave]
    if sheet.deeds:
        lines += ["do"] + list(block(sheet.deeds, 0))
    return "".join(line + "\n" for line in lines)


class WritingTest(Case):

    def check(self, sheet):
        """Check the text of a sheet; return it."""
        text = write_sheet(sheet)
        self.same(text, written(sheet))
        self.equal(read_sheet(text), sheet)
        self.same(write_sheet(sheet), text)
        return text

    def test_exact_texts(self):
        for text, wanted in (
                ("", ""), ("do", ""), ("# x\n\ndo\n", ""), ("thread a 2", "thread a 2\n"),
                ("  thread  a   2 # x\ndo", "thread a 2\n"), ("do\nage", "do\nage\n"),
                ("do\n run  1" + "0" * 40, "do\nrun 1" + "0" * 40 + "\n"),
                ("sheet a 2 3\ntube b 1 3\ntie a.5  b.0\nstates b *o.\ndrop a.0",
                 "sheet a 2 3\ntube b 1 3\ntie a.5 b.0\nstates b *o.\ndrop a.0\n"),
                ("star a 3\ndo\npoke a.0  a.3 a.0\nuntie a.0 a.1\nshow a\ncount a.2\nfate a.3\ncut a.0\ntie a.2 a.1",
                 "star a 3\ndo\npoke a.0 a.3 a.0\nuntie a.0 a.1\nshow a\ncount a.2\nfate a.3\ncut a.0\ntie a.2 a.1\n"),
                ("do\ntimes 3\nend\ntry\nend", "do\ntimes 3\nend\ntry\nend\n"),
                ("do\ntimes 3\nrun 1\n  times 0\nrun 2\nend\nend\nbeats",
                 "do\ntimes 3\n  run 1\n  times 0\n    run 2\n  end\nend\nbeats\n"),
                ("full a 1\ndo\nwhen ready a.0\nend", "full a 1\ndo\nwhen ready a.0\nend\n"),
                ("full a 1\ndo\nwhen ready a.0\nelse\nend", "full a 1\ndo\nwhen ready a.0\nend\n"),
                ("full a 1\ndo\nwhen ready a.0\nelse\nage\nend", "full a 1\ndo\nwhen ready a.0\nelse\n  age\nend\n"),
                ("full a 1\ndo\ntry\nwhen fired a.0\nbeats\ntry\nage\nend\nelse\nwhen ready a.0\nelse\nrun 1\nend\nend\nend",
                 "full a 1\ndo\ntry\n  when fired a.0\n    beats\n    try\n      age\n    end\n  else\n"
                 "    when ready a.0\n    else\n      run 1\n    end\n  end\nend\n")):
            self.same(self.check(read_sheet(text)), wanted)

    def test_eight_blocks(self):
        text = "do\n" + "".join("  " * depth + "try\n" for depth in range(8)) + "  " * 8 + "age\n"
        text += "".join("  " * depth + "end\n" for depth in range(7, -1, -1))
        self.same(self.check(read_sheet(text)), text)

    def test_random_sheets(self):
        chance = random.Random(510)
        for _ in range(250):
            text = random_text(chance, 5, (0, 1, 9, FAR), 60)
            sheet = read_sheet(roughened(chance, text))
            self.check(sheet)
            reader = Reader(text)
            self.same(self.check(Sheet(reader.weave, reader.top)), write_sheet(sheet))

    def test_created_sheets(self):
        weave = [["thread", "a", 3], ["tie", ["a", 0], ["a", 2]], ["states", "a", "*o."]]
        deeds = [["times", 2, [["poke", [["a", 0], ["a", 1]]], ["when", "fired", ["a", 2], [], [["run", 3]]]]], ["show", "a"]]
        sheet = Sheet(weave, deeds)
        spoiled = [weave.pop(), deeds[0][2].pop(), deeds[0][2][0][1].pop(), weave[1][1].pop()]
        self.assertEqual(len(spoiled), 4)
        self.same(self.check(sheet), "thread a 3\ntie a.0 a.2\nstates a *o.\ndo\ntimes 2\n  poke a.0 a.1\n"
                                     "  when fired a.2\n  else\n    run 3\n  end\nend\nshow a\n")
        self.same(self.check(Sheet([], [])), "")
        self.same(self.check(Sheet((), (("age",),))), "do\nage\n")
        self.same(write_sheet(sheet=Sheet([["full", "do", 1]], [])), "full do 1\n")


if __name__ == "__main__":
    unittest.main()
