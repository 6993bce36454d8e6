"""Reading sheets: points 63 to 68."""

import random
import unittest

from firerest import errors
from firerest.reading import read_sheet
from firerest.sheets import Sheet
from tests.sheet_support import BARRED, DEEDS, FAR, WEAVE, Reader, random_text, roughened
from tests.support import Case

NINES = "9" * 40
# Two names with 4 and 3 places; the next line is line 4.
TOP = "ring a 4\nthread b 3\nstates b *o.\n"


class ReadingCase(Case):

    def reads(self, text, weave=None, deeds=None):
        """Check that the text is a sheet, with these tuples; return the sheet."""
        reader = Reader(text)
        self.assertIsNone(reader.fault, text)
        sheet = self.ask(read_sheet, text)
        self.assertIs(type(sheet), Sheet)
        self.same(sheet.weave, tuple(reader.weave))
        self.same(sheet.deeds, tuple(reader.top))
        if weave is not None:
            self.same(sheet.weave, weave)
        if deeds is not None:
            self.same(sheet.deeds, deeds)
        return sheet

    def rejects(self, name, line, text):
        """Check that the text is no sheet, with the error and its line."""
        self.assertEqual(Reader(text).fault, (name, line), text)
        self.fails(name, (line,), read_sheet, text)
        with self.assertRaises(errors.SheetError) as held:
            read_sheet(text=text)
        self.assertIsInstance(held.exception, errors.FirerestError)
        self.assertIsInstance(held.exception, ValueError)

    def judge(self, text):
        """Check one text against the oracle; return its error, or None."""
        fault = Reader(text).fault
        if fault is None:
            self.reads(text)
            return None
        self.fails(fault[0], (fault[1],), read_sheet, text)
        return fault[0]


class SheetTest(ReadingCase):

    def test_every_declaration(self):
        for line, row in (("thread a 1", ("thread", "a", 1)), ("thread a 60", ("thread", "a", 60)),
                          ("ring abcdefgh 3", ("ring", "abcdefgh", 3)), ("ring z 60", ("ring", "z", 60)),
                          ("star s 1", ("star", "s", 1)), ("star s 59", ("star", "s", 59)),
                          ("full f 1", ("full", "f", 1)), ("full f 60", ("full", "f", 60)),
                          ("sheet s 1 1", ("sheet", "s", 1, 1)), ("sheet s 60 1", ("sheet", "s", 60, 1)),
                          ("sheet s 1 60", ("sheet", "s", 1, 60)), ("sheet s 6 10", ("sheet", "s", 6, 10)),
                          ("tube t 1 3", ("tube", "t", 1, 3)), ("tube t 20 3", ("tube", "t", 20, 3)),
                          ("tube t 1 60", ("tube", "t", 1, 60))):
            self.reads(line, (row,), ())
        weave = (("ring", "a", 4), ("thread", "b", 3), ("states", "b", "*o."))
        for line, row in (("tie a.0 b.2", ("tie", ("a", 0), ("b", 2))), ("tie a.3 a.1", ("tie", ("a", 3), ("a", 1))),
                          ("drop b.0", ("drop", ("b", 0))), ("states a .*o.", ("states", "a", ".*o."))):
            self.reads(TOP + line, weave + (row,), ())

    def test_every_deed(self):
        for line, row in (("run 0", ("run", 0)), ("run 1" + "0" * 40, ("run", FAR)), ("run " + NINES, ("run", FAR - 1)),
                          ("poke a.0", ("poke", (("a", 0),))),
                          ("poke b.2 a.0 b.2", ("poke", (("b", 2), ("a", 0), ("b", 2)))),
                          ("cut a.3", ("cut", ("a", 3))), ("tie a.0 b.0", ("tie", ("a", 0), ("b", 0))),
                          ("untie b.0 a.2", ("untie", ("b", 0), ("a", 2))), ("show b", ("show", "b")),
                          ("beats", ("beats",)), ("count b.1", ("count", ("b", 1))),
                          ("fate a.2", ("fate", ("a", 2))), ("age", ("age",)),
                          ("times 0\nend", ("times", 0, ())), ("times 1" + "0" * 40 + "\nend", ("times", FAR, ())),
                          ("times 2\nrun 1\npoke a.0\nend", ("times", 2, (("run", 1), ("poke", (("a", 0),))))),
                          ("try\nend", ("try", ())), ("try\nage\ncut a.0\nend", ("try", (("age",), ("cut", ("a", 0))))),
                          ("when ready a.0\nend", ("when", "ready", ("a", 0), (), ())),
                          ("when fired a.0\nage\nend", ("when", "fired", ("a", 0), (("age",),), ())),
                          ("when resting b.1\nelse\nend", ("when", "resting", ("b", 1), (), ())),
                          ("when resting b.1\nelse\nage\nend", ("when", "resting", ("b", 1), (), (("age",),))),
                          ("when ready b.1\nbeats\nrun 2\nelse\nage\nrun 1\nend",
                           ("when", "ready", ("b", 1), (("beats",), ("run", 2)), (("age",), ("run", 1))))):
            self.reads(TOP + "do\n" + line, None, (row,))
            self.reads(TOP + "do\n" + line + "\n" + line + "\n", None, (row, row))
            self.reads(TOP + "do\ntry\ntry\n" + line + "\nend\nend", None, (("try", (("try", (row,)),)),))

    def test_blocks_in_blocks(self):
        text = TOP + ("do\nwhen fired a.0\nwhen ready b.0\nrun 1\nelse\ntimes 3\nrun 2\nwhen resting b.1\nelse\n"
                      "run 4\nend\nend\nend\nrun 5\nelse\ntry\ntry\nshow a\nend\nend\nrun 6\nend\nrun 7")
        inner = ("times", 3, (("run", 2), ("when", "resting", ("b", 1), (), (("run", 4),))))
        first = ("when", "ready", ("b", 0), (("run", 1),), (inner,))
        others = (("try", (("try", (("show", "a"),)),)), ("run", 6))
        self.reads(text, None, (("when", "fired", ("a", 0), (first, ("run", 5)), others), ("run", 7)))

    def test_eight_open_blocks(self):
        for block in ("try", "times 1", "when ready a.0"):
            for many in range(1, 9):
                self.reads(TOP + "do\n" + (block + "\n") * many + "run 1\n" + "end\n" * many)
            self.rejects("Misplaced", 13, TOP + "do\n" + (block + "\n") * 9 + "end\n" * 9)
            # Blocks that are closed again do not count.
            self.reads(TOP + "do\n" + (block + "\nend\n") * 20)
            self.rejects("OpenBlock", 12, TOP + "do\n" + (block + "\n") * 8)
            self.reads(TOP + "do\n" + (block + "\n") * 7 + (block + "\nend\n") * 2 + "end\n" * 7)

    def test_no_words_and_no_deeds(self):
        for text in ("", "\n", "\n\n\n", "   ", "#", "# do", " # thread a 2\n   \n#\n", "do", "do\n", "\n do #\n\n#"):
            self.reads(text, (), ())
        self.reads("do\nage", (), (("age",),))
        self.reads("do # nothing\n\n#\n run  3  ", (), (("run", 3),))
        weave = (("thread", "a", 2),)
        for text in ("thread a 2", "thread a 2\n", "thread a 2\ndo", "thread a 2\ndo\n", "\nthread a 2\n\n\ndo\n\n"):
            self.reads(text, weave, ())

    def test_spaces_and_remarks(self):
        wanted = self.reads("thread a 2\ntie a.0 a.1\ndo\npoke a.0 a.1\nshow a")
        for text in ("  thread   a  2 \ntie a.0    a.1\n  do  \n poke  a.0 a.1   \n   show a  \n",
                     "thread a 2# 3\ntie a.0 a.1#a.2\ndo#\npoke a.0 a.1 #\nshow a # b",
                     "#\nthread a 2 # ## #\n\n\ntie a.0 a.1\ndo # do\n#do\npoke a.0 a.1# a.5\n  # end\nshow a#"):
            self.equal(self.reads(text), wanted)
        # A remark may end a word, and take words away.
        self.rejects("WordCount", 1, "thread ab#c 3")
        self.rejects("WordCount", 1, "thread a #2")
        self.rejects("UnknownWord", 1, "thr#ead a 2")
        self.reads("thread a 1#0", (("thread", "a", 1),))
        self.reads("#thread a 0", ())

    def test_names_that_are_words_of_the_language(self):
        for name in ("ring", "do", "end", "else", "ready", "fired", "thread", "show", "times", "try", "age", "x"):
            self.reads(f"thread {name} 2\ntie {name}.0 {name}.1\nstates {name} *o\ndo\nshow {name}\nwhen ready {name}.1\n"
                       f"poke {name}.0\nelse\nfate {name}.1\nend",
                       (("thread", name, 2), ("tie", (name, 0), (name, 1)), ("states", name, "*o")),
                       (("show", name), ("when", "ready", (name, 1), (("poke", ((name, 0),)),),
                                         (("fate", (name, 1)),))))

    def test_exactly_sixty_places(self):
        for text in ("thread a 60", "thread a 59\nfull b 1", "star a 58\nthread b 1", "sheet a 6 9\ntube b 2 3",
                     "star a 29\nstar b 29", "full a 57\nring b 3", "star a 59"):
            self.reads(text + "\ndo\nrun 1")
            self.rejects("TooLarge", text.count("\n") + 2, text + "\nthread c 1")
        for line in ("thread c 2", "star c 1", "ring c 3", "full c 2", "sheet c 2 1", "tube c 1 3", "sheet c 60 60",
                     "tube c 60 60", "star c 59"):
            self.rejects("TooLarge", 2, "thread a 59\n" + line)
        for line in ("sheet c 60 60", "tube c 60 60", "sheet c 2 31", "tube c 21 3", "sheet c 61 1"):
            self.rejects("BadWord" if "61" in line else "TooLarge", 1, line)

    def test_random_texts(self):
        chance = random.Random(500)
        for _ in range(250):
            text = random_text(chance, 4, (0, 1, 7, 10 ** 12, FAR))
            wanted = self.reads(text)
            self.equal(self.reads(roughened(chance, text)), wanted)

    def test_asking_again(self):
        text = TOP + "do\ntimes 2\nrun 1\nend"
        first = read_sheet(text)
        self.rejects("OpenBlock", 5, text[:-4])
        self.equal(read_sheet(text), first)


class ErrorTest(ReadingCase):

    def test_unknown_word(self):
        for line in sorted(set(DEEDS) - set(WEAVE)) + ["Thread a 2", "threads a 2", "a.0", "do.0", "DO", "1", "*", ".",
                                                       "ring.3", "end", "else", "poke a.0", "sheet:"]:
            self.rejects("UnknownWord", 1, line)
            self.rejects("UnknownWord", 4, TOP + line + "\ndo\nfoo")
            self.rejects("UnknownWord", 6, "#\n\n" + TOP + line)
        for line in sorted(set(WEAVE) - set(DEEDS)) + ["thread c 2", "do", "do do", "Run 1", "runs 1", "a.0", "7", "*o.",
                                                       "states a ....", "drop a.0", "end.", "otherwise"]:
            self.rejects("UnknownWord", 5, TOP + "do\n" + line)
            self.rejects("UnknownWord", 8, TOP + "do\ntimes 1\n\n#\n" + line + "\nage")

    def test_word_count(self):
        for line in ("thread", "thread c", "thread c 2 2", "ring c", "star c 2 2", "full", "sheet c 2", "sheet c 2 2 2",
                     "tube c 3", "tube c 3 3 3", "tie a.0", "tie", "tie a.0 a.2 a.3", "drop", "drop a.0 a.1", "states a",
                     "states", "states a .... .", "do do", "do 1", "do thread c 2"):
            self.rejects("WordCount", 4, TOP + line)
        for line in ("run", "run 1 1", "poke", "times", "times 1 1", "when", "when ready", "when ready a.0 a.1", "try 1",
                     "cut", "cut a.0 a.1", "tie a.0", "untie a.0", "untie a.0 a.1 a.2", "show", "show a b", "beats 1",
                     "count", "count a.0 a.1", "fate", "fate a.0 a.1", "age 1", "else 1", "end 1", "end end"):
            self.rejects("WordCount", 5, TOP + "do\n" + line)
            self.rejects("WordCount", 6, TOP + "do\nwhen ready a.0\n" + line)

    def test_bad_names_and_numbers(self):
        for name in ("abcdefghi", "A", "aB", "a1", "1", "a.", "a.0", "a_", "-", "*", "ab-c", "a,"):
            self.rejects("BadWord", 4, TOP + f"thread {name} 2")
            self.rejects("BadWord", 4, TOP + f"states {name} ..")
            self.rejects("BadWord", 5, TOP + f"do\nshow {name}")
        wrong = ("00", "01", "+1", "-1", "1.0", "one", "1e3", "1_0", "0x1", "a", ".", "1,", "9" * 42, "1" + "0" * 41)
        for number in wrong:
            for line in ("thread c ", "ring c ", "star c ", "full c ", "sheet c 2 ", "tube c 2 "):
                self.rejects("BadWord", 4, TOP + line + number)
            self.rejects("BadWord", 4, TOP + f"sheet c {number} 2")
            self.rejects("BadWord", 4, TOP + f"tube c {number} 3")
            for line in ("run ", "times "):
                self.rejects("BadWord", 5, TOP + "do\n" + line + number)

    def test_bounds_of_numbers(self):
        for line, bounds in (("thread c", (1, 60)), ("ring c", (3, 60)), ("star c", (1, 59)), ("full c", (1, 60)),
                             ("sheet c 1", (1, 60)), ("tube c 1", (3, 60))):
            least, most = bounds
            for number in (least, most):
                self.reads(f"{line} {number}")
            for number in (0, least - 1, most + 1, most + 2, 61, 10 ** 40, 10 ** 41 - 1):
                self.rejects("BadWord", 1, f"{line} {number}")
        for number in (0, 61, 10 ** 40):
            self.rejects("BadWord", 1, f"sheet c {number} 1")
            self.rejects("BadWord", 1, f"tube c {number} 3")
        for word in ("run", "times"):
            for number in (FAR + 1, FAR + 10, 10 ** 41 - 1, 2 * FAR):
                self.rejects("BadWord", 2, f"do\n{word} {number}")
            for number in (0, 1, FAR - 1, FAR):
                self.judge(f"do\n{word} {number}" + ("\nend" if word == "times" else ""))

    def test_bad_place_words(self):
        wrong = ("a", "a.", ".0", "a.00", "a.01", "a.-1", "a.+1", "a.0.", "a.0.1", "a..0", "A.0", "a1.0", "abcdefghi.0",
                 "a.x", "0.a", "a.1x", "a." + "9" * 42, "a,0", "a.0,", ".", "..", "*.0")
        for place in wrong:
            for line in ("tie a.0 {}", "tie {} a.0", "drop {}"):
                self.rejects("BadWord", 4, TOP + line.format(place))
            for line in ("poke {}", "poke a.0 {}", "poke {} a.9", "when ready {}", "cut {}", "tie a.0 {}", "tie {} b.0",
                         "untie a.0 {}", "untie {} a.0", "count {}", "fate {}"):
                self.rejects("BadWord", 5, TOP + "do\n" + line.format(place))
        for state in ("Ready", "firing", "rest", "*", "0", "a", "ready.", "restin"):
            self.rejects("BadWord", 5, TOP + f"do\nwhen {state} a.0")
        for signs in ("0", "..x.", "....,", "*O.", ". .", "a"):
            name = "WordCount" if " " in signs else "BadWord"
            self.rejects(name, 4, TOP + f"states a {signs}")

    def test_unknown_names_and_place_numbers(self):
        # Any number may stand in a place word: it is a place that is not known.
        for place in ("a.4", "a.5", "b.3", "c.0", "do.0", "a." + "9" * 41, "b." + str(FAR), "aa.0"):
            for line in ("tie a.0 {}", "tie {} a.0", "drop {}"):
                self.rejects("UnknownName", 4, TOP + line.format(place))
            for line in ("poke {}", "poke a.0 {}", "poke {} a.1", "when ready {}", "cut {}", "tie a.0 {}", "tie {} b.0",
                         "untie a.0 {}", "untie {} a.0", "count {}", "fate {}"):
                self.rejects("UnknownName", 5, TOP + "do\n" + line.format(place))
        for name in ("c", "ab", "aa", "thread"):
            self.rejects("UnknownName", 4, TOP + f"states {name} .")
            self.rejects("UnknownName", 5, TOP + f"do\nshow {name}")
        # A name stands for places only behind its declaration.
        self.rejects("UnknownName", 1, "drop a.0\nthread a 1")
        self.rejects("UnknownName", 2, "do\nshow a")
        self.reads("star a 3\ndrop a.3")
        self.rejects("UnknownName", 2, "star a 3\ndrop a.4")
        self.rejects("UnknownName", 2, "sheet a 2 3\ndrop a.6")

    def test_name_taken_signs_and_ties(self):
        for line in ("thread a 1", "ring a 3", "star b 1", "full b 1", "sheet a 1 1", "tube b 1 3"):
            self.rejects("NameTaken", 4, TOP + line)
        for signs in (".", "...", ".....", "*" * 60, "o" * 61):
            self.rejects("BadSigns", 4, TOP + f"states a {signs}")
        for line in ("tie a.0 a.0", "tie b.2 b.2"):
            self.rejects("BadTie", 4, TOP + line)
            self.rejects("BadTie", 5, TOP + "do\n" + line)
            self.rejects("BadTie", 5, TOP + "do\nun" + line)
        self.reads(TOP + "tie a.0 b.0\ndo\ntie a.1 b.1\nuntie a.0 b.0\nuntie a.0 a.1")

    def test_misplaced(self):
        lines = {"cut": "cut a.0", "tie": "tie a.0 a.2", "untie": "untie a.0 a.2", "show": "show a", "count": "count a.0",
                 "fate": "fate a.0"}
        for word in BARRED:
            line = lines.get(word, word)
            self.rejects("Misplaced", 6, TOP + f"do\ntimes 2\n{line}")
            self.rejects("Misplaced", 8, TOP + f"do\ntimes 2\nwhen ready a.0\ntimes 0\n{line}\nend\nend\nend")
            self.rejects("Misplaced", 9, TOP + f"do\ntry\ntimes 2\nwhen ready a.0\nelse\n{line}\nend\nend\nend")
            close = "end\n" if word == "try" else ""
            self.reads(TOP + f"do\ntimes 2\nend\n{line}\n{close}")
            self.reads(TOP + f"do\ntry\nwhen ready a.0\n{line}\n{close}else\n{line}\n{close}end\ntimes 1\nend\n{line}\n{close}end")
        self.reads(TOP + "do\ntimes 2\nrun 1\npoke a.0\nwhen ready a.0\ntimes 1\nrun 1\nend\nelse\npoke b.0\nend\nend")
        for text in ("end", "else", "run 1\nend", "try\nend\nend", "when ready a.0\nend\nelse"):
            self.rejects("Misplaced", 5 + text.count("\n"), TOP + "do\n" + text)
        for text in ("try\nelse", "times 1\nelse", "when ready a.0\nelse\nelse", "when ready a.0\ntry\nelse",
                     "when ready a.0\nelse\nrun 1\nelse", "when ready a.0\ntimes 1\nend\nelse\ntimes 1\nelse"):
            self.rejects("Misplaced", 5 + text.count("\n"), TOP + "do\n" + text + "\nend\nend\nend")
        self.reads(TOP + "do\nwhen ready a.0\nwhen fired a.0\nelse\nend\nelse\nwhen ready a.1\nelse\nend\nend")

    def test_open_block(self):
        for text, line in (("try", 5), ("times 1\nrun 1", 5), ("when ready a.0\nelse\nage", 5), ("try\ntry\nend", 5),
                           ("try\n\n# x\nwhen ready a.0\ntimes 0\nend", 8), ("try\nend\ntry\n\n\n", 7),
                           ("when ready a.0\nelse\ntry", 7), ("try\ntimes 2\nwhen ready a.0", 7)):
            self.rejects("OpenBlock", line, TOP + "do\n" + text)
            # A wrong line comes first, wherever it stands.
            self.rejects("UnknownWord", 5 + len(text.split("\n")), TOP + "do\n" + text + "\nfoo")
            self.rejects("UnknownWord", 5, TOP + "do\nfoo\n" + text)

    def test_the_first_of_several_errors_of_one_line(self):
        taken = "thread c 40\n"
        for name, line in (("WordCount", "thread A"), ("WordCount", "thread 1 2 3"), ("WordCount", "thread a"),
                           ("WordCount", "thread a 2 2"), ("WordCount", "sheet d 60 60 60"), ("WordCount", "drop d.0 d.1"),
                           ("WordCount", "states a . ."), ("WordCount", "states d"), ("WordCount", "tie a.0 a.0 a.0"),
                           ("BadWord", "thread a 61"), ("BadWord", "ring a 2"), ("BadWord", "sheet A 60 60"),
                           ("BadWord", "sheet d 61 60"), ("BadWord", "tie a.9 a.01"), ("BadWord", "tie d.0 d"),
                           ("BadWord", "drop D.0"), ("BadWord", "states d ..x"), ("BadWord", "states a ..x"),
                           ("BadWord", "tie a.01 a.01"), ("NameTaken", "sheet a 60 60"), ("NameTaken", "thread a 40"),
                           ("UnknownName", "tie a.4 a.4"), ("UnknownName", "tie d.0 d.0"), ("UnknownName", "states d ..")):
            self.rejects(name, 5, TOP + taken + line)
        for name, line in (("UnknownWord", "thread"), ("UnknownWord", "states a"), ("UnknownWord", "do a.0"),
                           ("WordCount", "cut"), ("WordCount", "cut a.9 a.01"), ("WordCount", "show A b"),
                           ("WordCount", "tie a.0 a.0 a.0"), ("WordCount", "try a.01"), ("WordCount", "beats b"),
                           ("WordCount", "else if"), ("WordCount", "age 20"), ("BadWord", "cut a.01"),
                           ("BadWord", "tie a.01 a.01"), ("BadWord", "tie d.0 d.00"), ("BadWord", "show A"),
                           ("BadWord", "poke d.0 d"), ("BadWord", "count a"), ("UnknownName", "cut a.4"),
                           ("UnknownName", "tie a.4 a.4"), ("UnknownName", "untie d.0 d.0"), ("UnknownName", "show d"),
                           ("UnknownName", "fate b.3"), ("BadTie", "tie a.0 a.0"), ("BadTie", "untie b.1 b.1"),
                           ("Misplaced", "else"), ("Misplaced", "try"), ("Misplaced", "untie b.1 b.0")):
            self.rejects(name, 6, TOP + "do\ntimes 2\n" + line)
        for name, line in (("WordCount", "end 1"), ("WordCount", "else 1"), ("Misplaced", "end"), ("Misplaced", "else")):
            self.rejects(name, 5, TOP + "do\n" + line)
        deep = TOP + "do\n" + "try\n" * 8
        for name, line in (("WordCount", "try 1"), ("WordCount", "when ready"), ("BadWord", "times 01"),
                           ("BadWord", "when on d.0"), ("UnknownName", "when ready d.0"), ("Misplaced", "when ready a.0"),
                           ("Misplaced", "times 0"), ("Misplaced", "try")):
            self.rejects(name, 13, deep + line)

    def test_the_first_of_several_wrong_lines(self):
        wrong = ("foo", "thread", "thread A 2", "thread a 1", "thread c 60", "drop c.0", "states a .", "tie a.0 a.0")
        for one in wrong:
            for two in wrong:
                name = Reader(TOP + one).fault[0]
                self.rejects(name, 4, TOP + f"{one}\n{two}\ndo\nfoo\ntry")
        wrong = ("foo", "cut", "cut a.01", "cut a.4", "tie a.0 a.0", "end", "else")
        for one in wrong:
            for two in wrong:
                name = Reader(TOP + "do\n" + one).fault[0]
                self.rejects(name, 5, TOP + f"do\n{one}\n{two}\ntry")
        self.rejects("UnknownWord", 1, "foo\nthread")
        self.rejects("WordCount", 6, TOP + "\n#\ndo 1\nfoo")
        self.rejects("UnknownWord", 5, TOP + "do\ndo\ndo 1")

    def test_lines_are_counted_over_lines_without_words(self):
        for before, line in (("", 1), ("\n", 2), ("#\n  \n\n", 4), ("# a\nthread c 2 # x\n\n \n", 5)):
            self.rejects("UnknownWord", line, before + "foo")
            self.rejects("UnknownWord", line, before + "   foo   # bar")
            self.rejects("WordCount", line, before + "do do\n\n")

    def test_spoiled_texts(self):
        chance = random.Random(501)
        tricky = ["a", "b.0", "zz", "a.0", "a.1", "do", "do.0", "end", "else", "try", "times", "when", "ready", "fired", "run",
                  "poke", "cut", "tie", "show", "age", "0", "1", "3", "60", "61", "01", "9" * 41, "9" * 42, str(FAR),
                  "*o.", ".", "#", "foo", "thread", "ring", "states", "drop", "beats", "ring.2", "end.1", "A", "a.00"]
        found = {}
        for _ in range(3000):
            lines = [line.split(" ") for line in random_text(chance, 3, (0, 1, FAR), 60).split("\n")]
            for _ in range(chance.choice((1, 1, 2, 3))):
                index = chance.randrange(len(lines))
                row, way = lines[index], chance.randrange(7)
                if way < 3 and row:
                    row[chance.randrange(len(row))] = chance.choice(tricky)
                elif way == 3:
                    row.insert(chance.randint(0, len(row)), chance.choice(tricky))
                elif way == 4 and row:
                    row.pop(chance.randrange(len(row)))
                elif way == 5:
                    lines.insert(index, list(chance.choice(lines)))
                else:
                    lines.pop(index)
                    lines.append([])
            text = "\n".join(" ".join(row) for row in lines)
            name = self.judge(text)
            found[name] = found.get(name, 0) + 1
        for name in ("UnknownWord", "WordCount", "BadWord", "NameTaken", "UnknownName", "BadSigns", "Misplaced",
                     "OpenBlock", None):
            self.assertGreater(found.get(name, 0), 2, found)


if __name__ == "__main__":
    unittest.main()
