"""The examples of the interface, as they stand there: they are kept in examples.md."""

import pathlib
import unittest

from firerest import errors

PATH = pathlib.Path(__file__).parent / "examples.md"
PROMPT = ">>> "


def examples():
    """Return (heading, lines of code, wanted text) for each example."""
    found = []
    heading, block = "", None
    for line in PATH.read_text().split("\n"):
        if line.startswith("## "):
            heading = line[3:]
        elif line == "```" and block is None:
            block = []
        elif line == "```":
            code = [row[len(PROMPT):] for row in block if row.startswith(PROMPT)]
            found.append((heading, code, "\n".join(block[len(code):])))
            block = None
        elif block is not None:
            block.append(line)
    return found


def told(code):
    """Return what the last line of the code returns or raises, as a text."""
    names = {}
    try:
        for row in code[:-1]:
            exec(row, names)
        return repr(eval(code[-1], names))
    except errors.FirerestError as error:
        return error


class ExamplesTest(unittest.TestCase):

    def test_examples(self):
        for heading, code, wanted in examples():
            with self.subTest(heading=heading, code=code):
                answer = told(code)
                if wanted.startswith("raises "):
                    error = eval(wanted[len("raises "):], vars(errors))
                    self.assertIs(type(answer), type(error))
                    self.assertEqual(vars(answer), vars(error))
                else:
                    self.assertEqual(answer, wanted)

    def test_all_examples_are_found(self):
        many = {}
        for heading, code, wanted in examples():
            self.assertTrue(code and wanted)
            many[heading] = many.get(heading, 0) + 1
        wanted = {"webs": 4, "shapes": 3, "blocks": 1, "scenes": 3, "books": 2, "runs": 2,
                  "leads": 2, "rings": 2, "tables": 2, "far": 2, "trails": 2, "longwalks": 1,
                  "fates": 2, "shares": 2, "wheels": 1, "repeats": 2, "wishes": 1, "lags": 2,
                  "leading": 2, "backs": 2, "watches": 1, "stories": 2, "refutations": 1,
                  "cuts": 1, "foldings": 1, "unrollings": 1, "reading": 2, "writing": 1,
                  "weaving": 1, "benches": 1, "farplaying": 3}
        self.assertEqual(many, {f"firerest/{name}.py": count for name, count in wanted.items()})


if __name__ == "__main__":
    unittest.main()
