import copy
import random
import unittest

from tests import plain
from tests.samples import FILL, LEAST, MILL, TAPS, TAPS_KNOWN, TUB
from tests.samples import altered, any_story, any_taps, any_things, any_works, boxes_of, dropped, replaced, retold, stuck_of, swapped
from worktwin.account import account, shows_account
from worktwin.errors import TooMany
from worktwin.lots import cores, lots
from worktwin.nonepapers import none_paper, shows_none
from worktwin.runs import run_with, shows_run
from worktwin.sure import bounds

# Two boxes, one of which fills, and a lamp that is told of.
PAIR = (
    "pair",
    (("a", 3, 0, 1), ("b", 2, 1, 2)),
    (("lamp", ("dark", "lit"), ()), ("tap", ("off", "on"), ("on",))),
    (("", "a", "tap", "on", 1, 2), ("b", "", "tap", "on", 0, 1)),
    (("light", (("lamp", "lit"),)), ("open", (("tap", "on"),))),
    (("eye", "part", "lamp"), ("rod", "sum", ("a",), 0)),
)


def lists_in(thing):
    """All lists within a thing, itself too."""
    found = [thing] if isinstance(thing, list) else []
    if isinstance(thing, (list, tuple)):
        for one in thing:
            found.extend(lists_in(one))
    return found


class AccountTest(unittest.TestCase):
    def check(self, works, story, **more):
        """Asks for an account, and looks at each of its rows."""
        found = account(works, story, **more)
        self.assertIs(type(found), tuple)
        well, ill, spans = found
        self.assertEqual([type(one) for one in found], [list, list, list])
        self.assertTrue(all(type(row) is tuple and len(row) == 2 for row in well + ill))
        self.assertTrue(all(type(row) is tuple and len(row) == 8 for row in spans))
        parts = [part[0] for part in works[2]]
        self.assertEqual([row[0] for row in well], lots(works, story, **more))
        self.assertEqual([row[0] for row in ill], cores(works, story, **more))
        for lot, run in well:
            self.assertIs(shows_run(works, story, run, lot=lot), True)
        for core, paper in ill:
            self.assertIs(shows_none(works, story, paper, lot=[part for part in parts if part not in core]), True)
        if not well:
            self.assertEqual(spans, [])
        else:
            self.check_spans(works, story, well[0][0], spans, **more)
        self.assertIs(shows_account(works, story, found), True)
        return found

    def check_spans(self, works, story, lot, spans, **more):
        places = [(beat, box) for beat in range(len(story[0]) + 1) for box in works[1]]
        self.assertEqual([row[:2] for row in spans], [(beat, box[0]) for beat, box in places])
        for (beat, box), row in zip(places, spans):
            name, cap = box[:2]
            _, _, low, first, under, high, last, over = row
            self.assertEqual((low, high), bounds(works, story, beat, (name,), lot=lot, **more))
            for level, run, paper, end, claim in (
                (low, first, under, 0, ("sum", (name,), 0, low - 1)),
                (high, last, over, cap, ("sum", (name,), high + 1, 40)),
            ):
                self.assertIs(shows_run(works, story, run, lot=lot), True)
                self.assertEqual(plain.level_of(works, name, run[beat]), level)
                if level == end:
                    self.assertIsNone(paper)
                else:
                    self.assertIs(shows_none(works, story, paper, lot=lot, where=[(beat, claim)]), True)

    def test_known_by_hand(self):
        for signs, wanted, hit, _ in TAPS_KNOWN:
            with self.subTest(signs):
                well, ill, spans = self.check(TAPS, (["go"], signs))
                self.assertEqual(([row[0] for row in well], [row[0] for row in ill]), (wanted, hit))
                self.assertEqual(len(spans), 2 if wanted else 0)

    def test_nothing_need_act_otherwise(self):
        well, ill, spans = self.check(TUB, (FILL, []))
        self.assertEqual(([row[0] for row in well], ill), ([()], []))
        told = [(row[0], row[1], row[2], row[5]) for row in spans]
        self.assertEqual(told, [(0, "tub", 1, 3), (1, "tub", 2, 5), (2, "tub", 2, 5)])

    def test_one_part(self):
        well, ill, spans = self.check(TUB, (FILL, [(1, "knob", "shut")]))
        self.assertEqual(([row[0] for row in well], [row[0] for row in ill]), ([("tap",)], [("tap",)]))
        self.assertEqual([(row[2], row[5]) for row in spans], [(1, 3), (1, 3), (1, 3)])

    def test_two_parts(self):
        story = (FILL, [(1, "knob", "shut"), (1, "rod", 0)])
        well, ill, spans = self.check(TUB, story)
        self.assertEqual([row[0] for row in well], [("plug", "tap")])
        self.assertEqual([row[0] for row in ill], [("plug",), ("tap",)])
        self.assertEqual([(row[2], row[5]) for row in spans], [(1, 1), (0, 0), (0, 0)])

    def test_either_of_two_and_the_bounds_by_the_first(self):
        story = (["go", "go"], [(1, "rod", 3)])
        well, ill, spans = self.check(TAPS, story)
        self.assertEqual(([row[0] for row in well], [row[0] for row in ill]), ([("a",), ("b",)], [("a", "b")]))
        self.assertEqual([(row[2], row[5]) for row in spans], [(0, 0), (3, 3), (6, 7)])
        story = (FILL, [(1, "rod", 1)])
        well, ill, spans = self.check(TUB, story)
        self.assertEqual(([row[0] for row in well], [row[0] for row in ill]), ([("plug",), ("tap",)], [("plug", "tap")]))

    def test_not_even_all_parts(self):
        for story in ((FILL, [(1, "rod", 6)]), ([], [(0, "rod", 4)]), (FILL, [(0, "rod", 1), (0, "rod", 2)])):
            well, ill, spans = self.check(TUB, story)
            self.assertEqual((well, spans), ([], []))
            self.assertEqual([row[0] for row in ill], [()])

    def test_none_at_0_and_at_the_cap_alone(self):
        _, _, spans = self.check(PAIR, (["open", "wait"], []))
        told = [(row[1], row[2], row[4] is None, row[5], row[7] is None) for row in spans]
        self.assertEqual(
            told,
            [
                ("a", 0, True, 1, False), ("b", 1, False, 2, True),
                ("a", 1, False, 3, True), ("b", 0, True, 2, True),
                ("a", 2, False, 3, True), ("b", 0, True, 2, True),
            ],
        )
        self.assertEqual(self.check(LEAST, ([], []))[2][0][2:5], (0, [(("m",), (0,))], None))

    def test_a_paper_of_a_bound_that_a_later_sign_brings(self):
        spans = self.check(TUB, (FILL, [(2, "rod", 2)]))[2]
        self.assertEqual([(row[2], row[5]) for row in spans], [(1, 1), (2, 2), (2, 2)])

    def test_too_many(self):
        # By no lot 1 is open, by all parts 16.
        with self.assertRaises(TooMany) as caught:
            account(TAPS, (["go"], []), most=15)
        self.assertEqual(caught.exception.what, 15)
        self.check(TAPS, (["go"], []), most=16)
        with self.assertRaises(TooMany):
            account(TAPS, (["go", "wait"], [(2, "rod", 9), (2, "rod", 8)]), most=15)
        with self.assertRaises(TooMany) as caught:
            account(boxes_of(9, 9, 2), ([], []))
        self.assertEqual(caught.exception.what, 200)
        self.check(boxes_of(9, 9, 1), ([], []))
        self.check(boxes_of(9, 9, 2), ([], []), most=300)
        works, story = stuck_of(9, 9, 2)
        self.check(works, story, most=300)
        with self.assertRaises(TooMany) as caught:
            account(works, story, most=299)
        self.assertEqual(caught.exception.what, 299)

    def test_lists_for_tuples_and_names(self):
        for signs in ([], [(1, "hand", "shut"), (2, "eye", 4)], [(2, "rod", 5), (0, "rod", 3)]):
            story = (["draw", "wait"], signs)
            handed = [swapped(MILL), swapped(story)]
            ahead = copy.deepcopy(handed)
            found = account(*handed)
            self.assertEqual(repr(found), repr(account(works=MILL, story=story, most=200)))
            self.assertIs(shows_account(*handed, found), True)
            self.assertIs(shows_account(works=MILL, story=story, thing=found), True)
            self.assertEqual(handed, ahead)
        with self.assertRaises(TypeError):
            account(MILL, ([], []), 200)

    def test_told_lists_are_the_askers_own(self):
        for story in ((["go", "wait"], [(2, "rod", 4)]), (["go"], [(1, "rod", 5)]), (["go", "go"], [])):
            found = account(TAPS, story)
            again = copy.deepcopy(found)
            lists = lists_in(found)
            self.assertEqual(len({id(one) for one in lists}), len(lists))
            for one in lists:
                one.clear()
            self.assertEqual(account(TAPS, story), again)

    def test_as_the_document_words_it(self):
        rng = random.Random(221)
        told = []
        while len(told) < 80:
            works = any_taps(rng) if len(told) % 4 else any_works(rng, 2, 3, 3)
            parts = tuple([part[0] for part in works[2]])
            story = plain.lived_story(rng, works, parts, 3) if len(told) % 5 else any_story(rng, works, 2, 3)
            every = plain.explaining(works, story)
            if every is None or (every and every[0] == () and rng.random() < 0.9):
                continue
            found = account(works, story, most=4000)
            self.assertTrue(plain.is_account(works, story, found))
            self.assertIs(shows_account(works, story, found), True)
            told.append(len(found[0]))
        self.assertGreater(len([many for many in told if many > 1]), 5)
        self.assertGreater(told.count(0), 3)


class ShowsAccountTest(unittest.TestCase):
    # One of two taps didn't come on, or not for long; the least lots are a and b, the one core has both.
    STORY = (["go", "wait"], [(2, "rod", 6)])

    def setUp(self):
        self.right_one = account(TAPS, self.STORY)
        self.well, self.ill, self.spans = self.right_one

    def wrong(self, *things, works=TAPS, story=STORY):
        for thing in things:
            with self.subTest(repr(thing)[:400]):
                self.assertIs(shows_account(works, story, thing), False)

    def right(self, *things, works=TAPS, story=STORY):
        for thing in things:
            with self.subTest(repr(thing)[:400]):
                self.assertIs(shows_account(works, story, thing), True)

    def test_the_sample(self):
        self.assertEqual([row[0] for row in self.well], [("a",), ("b",)])
        self.assertEqual([row[0] for row in self.ill], [("a", "b")])
        self.right(self.right_one)

    def test_other_runs_and_papers_that_show_the_same(self):
        for run in plain.runs(TAPS, self.STORY, ("a",)):
            self.right(([(("a",), run), self.well[1]], self.ill, self.spans))
        paper = self.ill[0][1]
        # A stand that never was, behind which nothing fits.
        more = (("on", "on", "on", "on"), (9,))
        longer = [*paper[:1], sorted({*paper[1], more}), *paper[2:]]
        self.assertIs(shows_none(TAPS, self.STORY, longer, lot=("c", "d")), True)
        self.right((self.well, [(self.ill[0][0], longer)], self.spans))

    def test_lots_otherwise(self):
        first, second = self.well
        for well in ([], [first], [second], [second, first], [first, first, second], [first, second, second], [first] * 2):
            self.wrong((well, self.ill, self.spans))
        # Lots that explain it, too, but are not among the least.
        both = (("a", "b"), first[1])
        self.assertIs(shows_run(TAPS, self.STORY, first[1], lot=("a", "b")), True)
        self.wrong(([first, second, both], self.ill, self.spans), ([both], self.ill, self.spans))
        self.wrong(([(("a",), second[1]), (("b",), first[1])], self.ill, self.spans))
        self.wrong(([(("b",), first[1]), (("a",), second[1])], self.ill, self.spans))
        self.wrong(([(("b", "a"), first[1])], self.ill, self.spans), ([((), first[1])], self.ill, self.spans))

    def test_cores_otherwise(self):
        core = self.ill[0]
        for ill in ([], [core, core], [(("a",), core[1])], [(("b",), core[1])], [((), core[1])], [(("b", "a"), core[1])]):
            self.wrong((self.well, ill, self.spans))
        for some in plain.subsets("abcd"):
            if some != ("a", "b"):
                self.wrong((self.well, [core, (some, core[1])], self.spans), (self.well, [(some, core[1]), core], self.spans))

    def test_lots_and_cores_that_match_each_other_but_are_none(self):
        run, paper = self.well[0][1], self.ill[0][1]
        for sets in ([()], [("a",)], [("b",)], [("a", "b")], [("a",), ("b",), ("c",)], [("a",), ("b", "c")], []):
            hit = plain.hitting("abcd", sets)
            self.assertEqual(plain.hitting("abcd", hit), sets)
            self.wrong(([(one, run) for one in sets], [(one, paper) for one in hit], self.spans))
            self.wrong(([(one, run) for one in sets], [(one, paper) for one in hit], []))

    def test_runs_and_papers_exchanged(self):
        (first, run), second = self.well
        (core, paper), = self.ill
        self.wrong(([(first, paper), second], self.ill, self.spans), (self.well, [(core, run)], self.spans))
        self.wrong((self.ill, self.well, self.spans), (self.spans, self.ill, self.well), (self.well, self.spans, self.ill))
        for at, row in enumerate(self.spans):
            turned = (*row[:2], row[5], row[6], row[7], row[2], row[3], row[4])
            if turned != row:
                self.wrong((self.well, self.ill, replaced(self.spans, (at,), turned)))
            turned = (*row[:3], row[4], row[3], row[5], row[7], row[6])
            self.wrong((self.well, self.ill, replaced(self.spans, (at,), turned)))

    def test_levels_one_more_or_less(self):
        for at, row in enumerate(self.spans):
            for place in (2, 5):
                for level in (row[place] - 1, row[place] + 1, -1, 10, None, str(row[place])):
                    self.wrong((self.well, self.ill, replaced(self.spans, (at, place), level)))

    def test_levels_that_runs_have_but_are_not_the_least(self):
        story = (FILL, [])
        found = account(TUB, story)
        stand = (("in", "run"), (3,))
        run = run_with(TUB, story, 1, stand)
        _, _, low, _, under, high, _, over = found[2][1]
        for paper in (under, None, over):
            self.wrong(replaced(found, (2, 1), (1, "tub", 3, run, paper, *found[2][1][5:])), works=TUB, story=story)
            self.wrong(replaced(found, (2, 1), (*found[2][1][:5], 3, run, paper)), works=TUB, story=story)

    def test_none_and_papers(self):
        for at, row in enumerate(self.spans):
            for place in (4, 7):
                for paper in (None, False, 0, (), "", [], [[]], [row[3]]):
                    if paper != row[place]:
                        self.wrong((self.well, self.ill, replaced(self.spans, (at, place), paper)))
                if row[place] is None:
                    self.wrong((self.well, self.ill, replaced(self.spans, (at, place), self.ill[0][1])))
        self.wrong((self.well, [(("a", "b"), None)], self.spans), ([(("a",), None), self.well[1]], self.ill, self.spans))

    def test_a_paper_where_there_must_be_none(self):
        # At 0 nothing is less, so that a paper would show it; but None alone is right.
        story = (FILL, [(1, "knob", "shut"), (1, "rod", 0)])
        found = account(TUB, story)
        row = found[2][1]
        self.assertEqual((row[2], row[4]), (0, None))
        paper = none_paper(TUB, story, lot=("plug", "tap"), where=[(1, ("any", ()))])
        self.assertIsNotNone(paper)
        self.wrong(replaced(found, (2, 1, 4), paper), works=TUB, story=story)

    def test_beats_and_boxes_otherwise(self):
        for at in range(len(self.spans)):
            self.wrong((self.well, self.ill, dropped(self.spans, (at,))))
            self.wrong((self.well, self.ill, [*self.spans, self.spans[at]]))
            self.wrong((self.well, self.ill, replaced(self.spans, (at, 1), "none")))
            self.wrong((self.well, self.ill, replaced(self.spans, (at, 0), at + 1)))
        self.wrong((self.well, self.ill, []), (self.well, self.ill, self.spans[::-1]), (self.well, self.ill, None))
        found = account(PAIR, (["open", "light"], []))
        for at in range(6):
            self.wrong(dropped(found, (2, at)), works=PAIR, story=(["open", "light"], []))
        turned = [found[2][at] for at in (1, 0, 2, 3, 4, 5)]
        self.wrong((found[0], found[1], turned), works=PAIR, story=(["open", "light"], []))
        turned = [found[2][at] for at in (0, 2, 4, 1, 3, 5)]
        self.wrong((found[0], found[1], turned), works=PAIR, story=(["open", "light"], []))

    def test_spans_where_there_are_no_lots(self):
        story = (["go", "wait"], [(1, "rod", 5)])
        well, ill, spans = account(TAPS, story)
        self.assertEqual((well, spans), ([], []))
        self.right((well, ill, spans), story=story)
        for more in (self.spans, [self.spans[0]], [[]], [None], (), None, False):
            self.wrong((well, ill, more), story=story)

    def test_bounds_by_another_lot(self):
        # By the first lot alone: those of the other one, where they are others, are none.
        story = (FILL, [(1, "rod", 1)])
        well, ill, spans = account(TUB, story)
        self.assertEqual([row[0] for row in well], [("plug",), ("tap",)])
        other = [bounds(TUB, story, beat, ("tub",), lot=("tap",)) for beat in range(3)]
        self.assertNotEqual([(row[2], row[5]) for row in spans], other)
        self.right((well, ill, spans), works=TUB, story=story)
        self.wrong(([well[1]], [(("tap",), ill[0][1])], spans), works=TUB, story=story)

    def test_another_story(self):
        for story in ((["go", "wait"], [(2, "rod", 7)]), (["go", "wait"], []), (["go"], [(1, "rod", 3)]), (["wait", "go"], [(2, "rod", 3)])):
            self.wrong(self.right_one, story=story)
            self.wrong(account(TAPS, story))
            self.right(account(TAPS, story), story=story)

    def test_lists_tuples_and_truths(self):
        self.wrong(swapped(self.right_one), list(self.right_one), *retold(self.right_one))
        found = account(LEAST, ([], []))
        self.wrong(*retold(found), works=LEAST, story=([], []))
        found = account(PAIR, (["light"], [(1, "eye", "dark")]))
        self.wrong(*retold(found), works=PAIR, story=(["light"], [(1, "eye", "dark")]))
        self.wrong((self.well, self.ill), (*self.right_one, []), self.well, ())

    def test_any_thing_is_told_of_and_not_changed(self):
        for thing in any_things(222):
            for works, story in ((TAPS, self.STORY), (LEAST, ([], [])), (TUB, (FILL, [(0, "rod", 6)]))):
                ahead = repr(thing)
                self.assertIs(shows_account(works, story, thing), False)
                self.assertEqual(repr(thing), ahead)
        for story in ((["go"], [(1, "rod", 3)]), (["go"], [(1, "rod", 5)])):
            found = account(TAPS, story)
            for thing in altered(found, 223, 1):
                ahead = repr(thing)
                self.assertIs(shows_account(TAPS, story, thing), False if repr(thing) != repr(found) else True)
                self.assertEqual(repr(thing), ahead)

    def test_as_the_document_words_it(self):
        rng = random.Random(224)
        told = []
        while len(told) < 300:
            works = any_taps(rng) if rng.random() < 0.5 else any_works(rng, 2, 2, 3)
            parts = tuple([part[0] for part in works[2]])
            story = plain.lived_story(rng, works, parts, 3)
            every = plain.explaining(works, story)
            if every is None or (every and every[0] == () and rng.random() < 0.7):
                continue
            found = account(works, story, most=4000)
            stands = plain.all_stands(works)
            for _ in range(4):
                thing = copy.deepcopy(found)
                runs = [row[1] for row in thing[0]] + [row[at] for row in thing[2] for at in (3, 6)]
                papers = [row[1] for row in thing[1]] + [row[at] for row in thing[2] for at in (4, 7) if row[at] is not None]
                for paper in papers:
                    at = rng.randrange(len(paper))
                    if at < len(paper) - 1 and rng.random() < 0.3:
                        paper[at] = sorted({*paper[at], rng.choice(stands)})
                if runs and rng.random() < 0.5:
                    run = rng.choice(runs)
                    run[rng.randrange(len(run))] = rng.choice(stands)
                told.append(plain.is_account(works, story, thing))
                self.assertIs(shows_account(works, story, thing), told[-1])
        self.assertGreater(min(told.count(True), told.count(False)), 60)


if __name__ == "__main__":
    unittest.main()
