"""The names of the interface: each is defined in the file that lists it."""

import importlib
import inspect
import pathlib
import re
import unittest

FUNCTIONS = {
    "webs": ("is_walk", "is_ring"),
    "shapes": ("pieces", "piece_of", "distances", "joined", "parted"),
    "blocks": ("blocks",),
    "scenes": ("all_ready", "mirror", "turned", "beside", "taken_out", "part", "picture_text",
               "scene_of_text"),
    "runs": ("step", "run", "film", "counts", "firings", "turns", "waits"),
    "leads": ("lead", "gap", "lead_sum", "gap_sum"),
    "rings": ("forest", "basic_rings", "ring_sums", "heights", "uneven_ring"),
    "tables": ("one_table", "power", "greatest_gains"),
    "far": ("lead_table", "far_run", "far_counts", "far_turns"),
    "trails": ("trail_gain", "best_trail"),
    "longwalks": ("row_facts", "long_walk"),
    "fates": ("is_silent", "fates"),
    "shares": ("share", "share_paper", "is_share_ring", "are_slopes"),
    "wheels": ("paced_share", "paced_paper", "is_paced_ring", "are_paced_slopes"),
    "repeats": ("repeat", "repeat_run", "repeat_counts"),
    "wishes": ("wish", "wished_sum", "has_wish"),
    "lags": ("lags", "unlike_ring", "tight_places"),
    "leading": ("leading", "can_lead", "why_never", "is_never", "least_beats"),
    "backs": ("back", "is_seen", "latest_start", "age", "befores", "before_count"),
    "stories": ("story", "is_story", "most_turns", "least_turns", "story_with", "must"),
    "refutations": ("refutation", "is_refutation"),
    "cuts": ("fewest_cuts", "is_cut_tree"),
    "foldings": ("folding", "is_even", "folded"),
    "unrollings": ("unrolled",),
    "reading": ("read_sheet",),
    "writing": ("write_sheet",),
    "weaving": ("woven",),
    "playing": ("play",),
    "farplaying": ("play_far",),
}

METHODS = {
    ("webs", "Web"): ("near", "__contains__", "__len__", "__iter__", "__add__", "__eq__"),
    ("scenes", "Scene"): ("__eq__",),
    ("books", "Book"): ("at", "until", "since", "about", "within", "__rshift__", "__or__",
                        "__contains__", "__len__", "__iter__", "__eq__"),
    ("books", "Pace"): ("at", "book", "since", "__eq__"),
    ("tables", "Table"): ("gain", "__mul__", "__or__", "__eq__"),
    ("fates", "Fate"): (),
    ("shares", "SharePaper"): (),
    ("wheels", "PacedPaper"): (),
    ("repeats", "Repeat"): (),
    ("wishes", "Wish"): (),
    ("leading", "Leading"): (),
    ("watches", "Watch"): ("__init__",),
    ("cuts", "Cuts"): (),
    ("sheets", "Sheet"): ("__init__", "__eq__"),
    ("weaving", "Woven"): (),
    ("benches", "Bench"): ("__init__", "run", "jump", "poke", "cut", "tie", "untie"),
    ("benches", "Trial"): ("__init__", "__enter__", "__exit__"),
}


# The arguments of what the headings do not show, but the points do.
SHOWN = {
    "webs.Web": "size, lines=()", "webs.Web.near": "self, place", "scenes.Scene": "web, picture",
    "books.Book": "pokes=()", "books.Book.at": "self, beat", "books.Book.until": "self, beats",
    "books.Book.since": "self, beats", "books.Book.about": "self, beats", "books.Book.within": "self, other",
    "books.Pace": "period, pokes=()", "books.Pace.at": "self, beat", "books.Pace.book": "self, beats",
    "books.Pace.since": "self, beats", "tables.Table": "rows", "tables.Table.gain": "self, a, b",
    "watches.Watch": "scene, beats, records, suspects", "sheets.Sheet": "weave, deeds",
    "benches.Bench": "scene", "benches.Bench.run": "self, beats", "benches.Bench.jump": "self, beats",
    "benches.Bench.poke": "self, places", "benches.Bench.cut": "self, place", "benches.Bench.tie": "self, a, b",
    "benches.Bench.untie": "self, a, b", "benches.Trial": "bench",
}
EXAMPLES = pathlib.Path(__file__).parent / "examples.md"


def headings():
    """Return (module, function, arguments) for each function that a heading of the interface shows."""
    found, module = [], None
    for line in EXAMPLES.read_text().split("\n"):
        if line.startswith("## firerest/"):
            module = line[len("## firerest/"):-len(".py")]
        elif line.startswith("- "):
            # What is created stands there as a call, too; it begins with a capital.
            found += [(module, name, told) for name, told in re.findall(r"`([a-z_]+)\(([^`]*)\)`", line)]
    return found


class InterfaceTest(unittest.TestCase):

    def test_arguments(self):
        names = set()
        for module, name, told in headings():
            names.add((module, name))
            function = getattr(importlib.import_module("firerest." + module), name)
            self.assertEqual(str(inspect.signature(function)), f"({told})")
        self.assertEqual(names, {(module, name) for module, row in FUNCTIONS.items() for name in row})
        for way, told in SHOWN.items():
            module, *steps = way.split(".")
            found = importlib.import_module("firerest." + module)
            for step in steps:
                found = getattr(found, step)
            self.assertEqual(str(inspect.signature(found)), f"({told})")

    def test_functions(self):
        for name, functions in FUNCTIONS.items():
            module = importlib.import_module("firerest." + name)
            for function in functions:
                self.assertEqual(getattr(module, function).__module__, module.__name__)
                self.assertEqual(getattr(module, function).__name__, function)

    def test_classes(self):
        for (name, kind), methods in METHODS.items():
            module = importlib.import_module("firerest." + name)
            made = getattr(module, kind)
            self.assertEqual(made.__module__, module.__name__)
            for method in methods:
                self.assertIn(method, vars(made))


if __name__ == "__main__":
    unittest.main()
