"""Asking many questions again and in other orders: point 3."""

import random
import unittest

from firerest.backs import age, back, before_count, befores, is_seen, latest_start
from firerest.blocks import blocks
from firerest.books import Book, Pace
from firerest.cuts import fewest_cuts, is_cut_tree
from firerest.errors import FirerestError
from firerest.far import far_counts, far_run, far_turns, lead_table
from firerest.farplaying import play_far
from firerest.fates import fates, is_silent
from firerest.foldings import folded, folding, is_even
from firerest.lags import lags, tight_places, unlike_ring
from firerest.leading import can_lead, is_never, leading, least_beats, why_never
from firerest.leads import gap, gap_sum, lead, lead_sum
from firerest.longwalks import long_walk, row_facts
from firerest.playing import play
from firerest.reading import read_sheet
from firerest.refutations import is_refutation, refutation
from firerest.repeats import repeat, repeat_counts, repeat_run
from firerest.rings import basic_rings, forest, heights, ring_sums, uneven_ring
from firerest.runs import counts, film, firings, run, step, turns, waits
from firerest.scenes import Scene, all_ready, beside, mirror, part, picture_text
from firerest.scenes import scene_of_text, taken_out, turned
from firerest.shapes import distances, joined, parted, piece_of, pieces
from firerest.shares import are_slopes, is_share_ring, share, share_paper
from firerest.sheets import Sheet
from firerest.stories import is_story, least_turns, most_turns, must, story, story_with
from firerest.tables import Table, greatest_gains, one_table, power
from firerest.trails import best_trail, trail_gain
from firerest.unrollings import unrolled
from firerest.watches import Watch
from firerest.weaving import woven
from firerest.webs import Web, is_ring, is_walk
from firerest.wheels import are_paced_slopes, is_paced_ring, paced_paper, paced_share
from firerest.wishes import has_wish, wish, wished_sum
from firerest.writing import write_sheet
from tests.sheet_support import random_text
from tests.support import FAR, Case, has_list, random_scene, ring_lines, shown


def films(*arguments):
    """Return the whole film as a tuple."""
    return tuple(film(*arguments))


def before_pictures(scene):
    """Return the pictures of up to 99 scenes that are one step before."""
    return tuple(before.picture for before, _ in zip(befores(scene), range(99)))


def questions_of_web(web):
    """Return questions about a web."""
    found = [(function, (web,)) for function in (pieces, blocks, forest, basic_rings, all_ready, len)]
    for place in (0, 1, web.size - 1, web.size, -1):
        found += [(web.near, (place,)), (piece_of, (web, place)), (distances, (web, (place, 0)))]
        found += [(joined, (web, 0, place)), (parted, (web, place, 0)), (parted, (web, 1, place))]
        found += [(function, (web, (0, place, 0))) for function in (is_walk, is_ring)]
    return found


def questions_of_scene(scene, book):
    """Return questions about a scene, with a book."""
    found = [(function, (scene,)) for function in (mirror, picture_text, step, ring_sums, lead_table)]
    found += [(turned, (scene, many)) for many in (1, -1, FAR)] + [(beside, (scene, scene))]
    found += [(Scene, (scene.web, scene.picture)), (scene_of_text, (scene.web, picture_text(scene)))]
    for beats in (0, 1, 6):
        for function in (run, counts, turns, waits, far_run, far_counts, far_turns, films):
            found += [(function, (scene, beats)), (function, (scene, beats, book))]
    for place in (0, 1, scene.web.size - 1, scene.web.size, -1):
        found += [(function, (scene, (place, 0))) for function in (taken_out, part, step)]
        found += [(function, (scene, 0, place)) for function in (lead, gap)]
        found += [(function, (scene, (0, place, 0))) for function in (lead_sum, gap_sum)]
        found += [(function, (scene, place)) for function in (heights, uneven_ring)]
        found += [(firings, (scene, place, 7)), (firings, (scene, place, 7, book))]
    return found + [(function, (scene, FAR, book)) for function in (far_run, far_counts, far_turns)]


def questions_of_trails(scene, book):
    """Return questions about trails, row lists, fates and shares."""
    found = [(fates, (scene,)), (is_silent, (scene,))]
    rows = (("stay", 0), ("step", 0, 1), ("both", 0, 1), ("both", 2, 2))
    found += [(row_facts, (scene, rows[:many])) for many in range(5)]
    for place in (0, 1, scene.web.size - 1, scene.web.size, -1):
        found += [(function, (scene, place)) for function in (share, share_paper)]
        found += [(best_trail, (scene, place, beats, book)) for beats in (0, 9)]
        found += [(long_walk, (scene, place, beats)) for beats in (0, 9, FAR)]
        found += [(trail_gain, (scene, ((0, 2), (0, 1), (place, 0)), book))]
        found += [(is_share_ring, (scene, pair, (0, place, 0))) for pair in ((0, 2), (1, 3))]
        found += [(are_slopes, (scene, place, (1, 1), (0,) * many)) for many in (1, scene.web.size)]
    return found


def questions_of_paces(scene, pace):
    """Return questions about a scene with a pace."""
    found = [(repeat, (scene,)), (repeat, (scene, pace))]
    for beats in (0, 9, FAR):
        found += [(function, (scene, beats, pace)) for function in (repeat_run, repeat_counts)]
    for place in (0, 1, scene.web.size - 1, scene.web.size, -1):
        found += [(function, (scene, place, pace)) for function in (paced_share, paced_paper)]
        ring = ((place, pace.period + 1), (place, pace.period))
        found += [(is_paced_ring, (scene, pace, (0, 1), ring)), (is_paced_ring, (scene, pace, (0, 1), ()))]
        rows = ((0,) * pace.period,) * scene.web.size
        found += [(are_paced_slopes, (scene, place, pace, (1, 1), tried)) for tried in (rows, rows[1:])]
    return found


def questions_of_backs(scene, book):
    """Return questions about lags, leading, starts, wishes and watches."""
    web = scene.web
    later, other = step(scene, (0, 1)), Scene(web, scene.picture[::-1])
    found = [(function, (scene,)) for function in (tight_places, age, before_count, before_pictures)]
    found += [(function, (later,)) for function in (tight_places, age, before_count, before_pictures)]
    for pair in ((scene, later), (later, scene), (scene, other), (scene, all_ready(Web(1)))):
        found += [(function, pair) for function in (lags, unlike_ring, why_never, least_beats)]
        found += [(function, pair + (beats,)) for function in (can_lead, leading) for beats in (0, 1, 9, 60)]
        for why in (("unlike", (0, 1, 0)), ("tight", (0, 2, 1, 0), 1), ("apart", (0, 1), (1, 0))):
            found.append((is_never, pair + (why,)))
    for beats in (0, 1, 9):
        found += [(function, (scene, beats, book)) for function in (is_seen, latest_start)]
    found += [(back, (scene, poked)) for poked in ((), (0, 1, -1, FAR))]
    for sums in ((0,) * len(web), (60,) * len(web)):
        found += [(wish, (web, sums)), (has_wish, (scene, sums))]
        found += [(wished_sum, (web, sums, (0, place))) for place in (0, 1, web.size, -1)]
    state = scene.picture[0]
    records = ((0, (state, 0 if state == 2 else state + 1)),)
    found += [(Watch, (scene, beats, records, (1, 0, 1))) for beats in (0, 1)]
    return found + [(Watch, (scene, 1, records + records, (place,))) for place in (0, -1)]


def questions_of_watches(scene, book):
    """Return questions about stories, refutations, cuts, foldings and unrollings."""
    web, small = scene.web, part(scene, tuple(range(min(scene.web.size, 9))))
    shown_at = [run(scene, beat, book).picture for beat in range(5)]
    found = [(folding, (scene,)), (folded, (scene,)), (is_even, (scene, scene.picture)), (is_even, (scene, ()))]
    for suspects in ((), (0,), tuple(range(web.size))):
        for places in ((), (1,), (0, 1)):
            records = [(place, [picture[place] for picture in shown_at]) for place in places]
            watch = Watch(scene, 4, records, suspects)
            none = ((None,) * web.size,) * 5
            found += [(function, (watch,)) for function in (story, must, refutation)]
            found += [(is_story, (watch, tried)) for tried in (book, book.until(4), Book())]
            found.append((is_refutation, (watch, none, ((0,) * web.size,) * 5)))
            for place in (0, 1, web.size, -1):
                found += [(function, (watch, place, 4)) for function in (most_turns, least_turns)]
                found += [(story_with, (watch, place, 4, many)) for many in (0, 2, FAR)]
    for pair in ((0, 1), (1, 5), (1, 3)):
        found += [(fewest_cuts, (small, pair)), (is_cut_tree, (small, pair, 0, ((0, 1, 0), ())))]
    return found + [(unrolled, (scene, ways, (shift,) * len(web))) for ways, shift in ((1, 0), (3, 1), (3, -1))]


def questions_of_sheets(chance):
    """Return questions about texts and sheets."""
    found = []
    for numbers in ((0, 1, 3), (2, FAR)):
        text = random_text(chance, 4, numbers, 9)
        sheet = read_sheet(text)
        found += [(read_sheet, (text,)), (read_sheet, (text + "\nthread",)), (Sheet, (sheet.weave, sheet.deeds))]
        found += [(function, (sheet,)) for function in (write_sheet, woven, play, play_far)]
    return found


def questions_of_rest(book, pace, table):
    """Return questions about a book, a pace and a table."""
    found = [(Book, (book.pokes,)), (Pace, (pace.period, pace.pokes)), (Table, (table.rows,))]
    for number in (0, 1, 3, FAR):
        found += [(function, (number,)) for function in (book.at, book.until, book.since, book.about)]
        found += [(function, (number,)) for function in (pace.at, pace.since)]
        found += [(power, (table, number)), (table.gain, (0, number)), (table.gain, (number, 0))]
    found += [(pace.book, (9,)), (book.within, (book,)), (len, (book,)), (one_table, (3,))]
    return found + [(greatest_gains, (table,)), (list, (book,)), (Table, (((0,), (1, 2)),))]


def told(question):
    """Return what the question is answered, also if that is an error."""
    function, arguments = question
    try:
        return shown(function(*arguments))
    except FirerestError as error:
        return (type(error).__name__, sorted(vars(error).items()))


class AskingTest(Case):

    def test_asking_again(self):
        chance = random.Random(110)
        things, asked = [], []
        for size in (2, 3, 4, 5, 5, 8, 8, 13, 20):
            scene = random_scene(chance, size, size + 2)
            book = Book([(chance.randrange(8), chance.randrange(size)) for _ in range(5)] + [(FAR, 0)])
            pace = Pace(size, [(chance.randrange(size), chance.randrange(size)) for _ in range(5)])
            table = Table([[chance.choice((None, 1, -2, 0)) for _ in range(size)] for _ in range(size)])
            things += [scene.web, scene, book, pace, table]
            asked += questions_of_web(scene.web) + questions_of_scene(scene, book)
            asked += questions_of_rest(book, pace, table)
            asked += questions_of_trails(scene, book) + questions_of_paces(scene, pace)
            asked += questions_of_backs(scene, book) + questions_of_watches(scene, book)
            asked += questions_of_sheets(chance)
        before = [shown(thing) for thing in things]
        answers = [told(question) for question in asked]
        for question, answer in zip(asked, answers):
            if question[0] is not list:
                self.assertFalse(has_list(answer), question)
        order = list(range(len(asked)))
        for _ in range(3):
            chance.shuffle(order)
            for index in order:
                self.assertEqual(told(asked[index]), answers[index], asked[index])
        self.assertEqual([shown(thing) for thing in things], before)

    def test_equal_objects_have_equal_answers(self):
        chance = random.Random(111)
        for _ in range(10):
            one = random_scene(chance, 9, 11)
            lines = [line[::-1] for line in one.web.lines[::-1]] + list(one.web.lines)
            two = Scene(Web(9, lines), list(one.picture))
            book = Book([(2, 3), (5, 1), (FAR, 2)])
            other = Book([[5, 1], [FAR, 2], [2, 3], [2, 3]])
            for question, again in zip(questions_of_scene(one, book), questions_of_scene(two, other)):
                self.assertEqual(told(question), told(again), question)
            for function in (questions_of_trails, questions_of_backs, questions_of_watches):
                for question, again in zip(function(one, book), function(two, other)):
                    self.assertEqual(told(question), told(again), question)
            paces = Pace(4, [(3, 1), (2, 0)]), Pace(4, [[2, 0], [3, 1], [2, 0]])
            pairs = zip(questions_of_paces(one, paces[0]), questions_of_paces(two, paces[1]))
            for question, again in pairs:
                self.assertEqual(told(question), told(again), question)
            for question, again in zip(questions_of_web(one.web), questions_of_web(two.web)):
                self.assertEqual(told(question), told(again), question)

    def test_webs_that_differ_in_one_line(self):
        web = Web(6, ring_lines(6))
        scene = Scene(web, [1, 2, 0, 0, 0, 0])
        for a, b in web.lines:
            less = Scene(parted(web, a, b), scene.picture)
            self.assertIs(run(less, 12).picture == run(scene, 12).picture, False)
            self.same(run(scene, 12).picture, scene.picture)
            self.same(pieces(less.web), ((0, 1, 2, 3, 4, 5),))
            self.same(heights(scene, 0), None)
            self.assertIsNotNone(heights(less, 0))


if __name__ == "__main__":
    unittest.main()
