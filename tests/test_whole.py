"""What holds over the whole program: texts there and back, all files asked of one story, and the sizes told."""

import random
import unittest

from tests import plain
from tests.samples import any_claim, any_lot, any_story, any_works, nested, replaced
from worktwin.account import account, shows_account
from worktwin.allowed import allowed, opened
from worktwin.claims import holds, is_claim
from worktwin.claimtext import claim_in, claim_text
from worktwin.desk import Desk
from worktwin.errors import BadRow, BadText, TooMany
from worktwin.joining import joined, shared
from worktwin.leading import needed, plan, shows_plan
from worktwin.lotpapers import lot_paper, shows_lot
from worktwin.lots import blamed, cores, explains, lots
from worktwin.lumps import lumps, shows_lumps
from worktwin.model import corrected, model
from worktwin.nonepapers import none_paper, shows_none
from worktwin.room import Room
from worktwin.runs import run_with, shows_run
from worktwin.signs import fits, is_sign
from worktwin.stands import is_stand
from worktwin.stories import is_story, told_story, until
from worktwin.storytext import story_in, story_text
from worktwin.sums import spanned, sums
from worktwin.sure import bounds, failing
from worktwin.twin import Twin
from worktwin.whatif import what_bounds, what_if
from worktwin.works import is_works
from worktwin.worktext import works_in, works_text

# As many boxes, parts, pipes, deeds and sensors as there may be.
GREAT_TEXT = """works plant
box cellar 9 2 4
box loft 9 0 2
box yard 9 3 5
part crane idle,lift,lower lower
part door shut,ajar,wide ajar
part lift rest,up -
part tap off,on on
pipe yard cellar door wide 1 2
pipe cellar loft lift up 0 2
pipe - yard crane lower 1 3
pipe loft - tap on 1 2
pipe yard - crane lift 2 2
deed fetch crane:lower door:wide
deed halt crane:idle door:shut lift:rest tap:off
deed hoist lift:up
deed serve tap:on
sensor all sum cellar,loft,yard 1
sensor cord part crane
sensor hinge part door
sensor rod sum cellar 0
sensor view sum loft,yard 2"""

DEEDS = ["fetch", "hoist", "wait", "serve", "halt", "hoist", "serve", "halt"]


def lived_signs(rng, works, run, many):
    """So many unlike signs that a run gives."""
    found = set()
    while len(found) < many:
        beat, sensor = rng.randrange(len(run)), rng.choice(works[5])
        fit = [one for one in plain.all_readings(works, sensor) if plain.fits(works, run[beat], (beat, sensor[0], one))]
        found.add((beat, sensor[0], rng.choice(fit)))
    return rng.sample(sorted(found), many)


def great_story(seed, lot=()):
    """The works of the text above, a run of it by a lot, and a story of eight deeds and 24 signs that it gives."""
    rng = random.Random(seed)
    works = works_in(GREAT_TEXT)
    run = plain.lived_run(rng, works, DEEDS, lot)
    return works, run, (DEEDS, lived_signs(rng, works, run, 24))


class TextsTest(unittest.TestCase):
    def test_there_and_back(self):
        rng = random.Random(301)
        for _ in range(200):
            works = any_works(rng)
            self.assertTrue(is_works(works))
            self.assertEqual(works_in(works_text(works)), works)
            self.assertEqual(works_text(works_in(works_text(works))), works_text(works))
            story = any_story(rng, works, 8, 24)
            self.assertTrue(is_story(works, story))
            self.assertEqual(story_in(works, story_text(story)), story)
            claim = any_claim(rng, works, 4)
            self.assertTrue(is_claim(works, claim))
            self.assertEqual(claim_in(works, claim_text(claim)), claim)

    def test_the_great_one(self):
        works = works_in(GREAT_TEXT)
        self.assertEqual([len(one) for one in works[1:]], [3, 4, 5, 4, 5])
        self.assertEqual(works_text(works), GREAT_TEXT)
        rows = GREAT_TEXT.split("\n")
        for at in range(len(rows)):
            # No row can stand there twice, but a pipe: of these there's then one too many.
            with self.assertRaises(BadRow) as caught:
                works_in("\n".join(rows[:at + 1] + rows[at:]))
            self.assertEqual(caught.exception.what, 13 if rows[at].startswith("pipe") else at + 1)

    def test_long_texts(self):
        for text in ("\n".join(["x" * 200] * 60), "\n" * 59, " " * 12000, "deed wait\n" * 59, "(" * 400, ")" * 400, "(not " * 80):
            with self.assertRaises(BadRow):
                works_in(text)
            with self.assertRaises(BadText):
                claim_in(works_in(GREAT_TEXT), text)


class WalkTest(unittest.TestCase):
    def walk(self, works, story, lot, most):
        """Asks all files of one story, and each answer beside the others."""
        by = {"lot": lot, "most": most}
        rows = allowed(works, story, **by)
        for row, wide in zip(rows, opened(works, story, **by)):
            self.assertTrue(set(row) <= set(wide))
            self.assertTrue(all(is_stand(works, stand) for stand in row))
            self.assertTrue(shows_lumps(works, row, lumps(works, row)))
            self.assertTrue(set(row) <= set(spanned(works, row)))
        if not rows[0]:
            paper = none_paper(works, story, **by)
            self.assertTrue(shows_none(works, story, paper, lot=lot))
            return
        self.assertIsNone(none_paper(works, story, **by))
        for beat, row in enumerate(rows):
            for stand in (row[0], row[-1]):
                self.assertTrue(shows_run(works, story, run_with(works, story, beat, stand, **by), lot=lot))
            for some, low, high in sums(works, row):
                self.assertEqual(bounds(works, story, beat, some, **by), (low, high))
                self.assertIsNone(failing(works, story, beat, ("sum", some, low, high), **by))
        found = model(works, story, **by)
        self.assertTrue(all(stand in row for stand, row in zip(found, rows)))
        self.assertTrue(set(corrected(works, story, **by)) <= set(range(1, len(rows))))
        self.assertEqual(shared(works, [story, until(works, story, 0)], **by)[0], rows[0])
        self.assertEqual(joined(works, [until(works, story, 0), story]), told_story(works, story))

    def check_lots(self, works, story, most):
        known = lots(works, story, most=most)
        for lot in known:
            self.assertTrue(explains(works, story, lot, most=most))
            self.assertTrue(shows_lot(works, story, lot, lot_paper(works, story, lot, most=most)))
            self.assertTrue(all(set(core) & set(lot) for core in cores(works, story, most=most)))
        common, some = blamed(works, story, most=most)
        self.assertTrue(set(common) <= set(some))
        self.assertTrue(shows_account(works, story, account(works, story, most=most)))

    def check_leading(self, works, story, goal, lot, most):
        by = {"lot": lot, "most": most}
        found = plan(works, story, goal, **by)
        if found is not None:
            self.assertTrue(shows_plan(works, story, goal, found, lot=lot))
            stands = what_if(works, story, found, **{**by, "most": 4000})
            self.assertTrue(all(holds(works, goal, stand) for stand in (stands[-1] if found else [])))
        helping = needed(works, story, goal, **by)
        if helping is not None:
            self.assertIsNone(found)
            for reading, deeds in helping[1]:
                sign = (len(story[0]), helping[0], reading)
                self.assertTrue(is_sign(works, sign))
                longer = (story[0], [*story[1], sign])
                self.assertTrue(shows_plan(works, longer, goal, deeds, lot=lot))

    def test_any_works(self):
        rng = random.Random(302)
        for at in range(60):
            works = any_works(rng, 2, 3, 3)
            lot = any_lot(rng, works)
            story = plain.lived_story(rng, works, lot) if at % 3 else any_story(rng, works)
            self.walk(works, story, lot, 4000)
            self.check_lots(works, story, 4000)
            if explains(works, story, lot, most=4000):
                self.check_leading(works, story, any_claim(rng, works), lot, 4000)

    def test_the_great_one(self):
        for seed, lot in ((1, ()), (2, ()), (3, ("tap",)), (4, ("crane", "door"))):
            works, run, story = great_story(seed, lot)
            self.assertTrue(is_story(works, story))
            self.assertTrue(shows_run(works, story, run, lot=lot))
            self.walk(works, story, lot, 400)
            self.walk(works, story, (), 400)
            rows = allowed(works, story, lot=lot, most=400)
            self.assertTrue(all(stand in row for stand, row in zip(run, rows)))
            self.check_leading(works, story, ("sum", ("cellar",), 1, 3), lot, 400)
            self.check_leading(works, story, ("mode", "tap", ("on",)), lot, 400)
            try:
                self.check_lots(works, story, 400)
            except TooMany as refusal:
                self.assertEqual(refusal.what, 400)

    def test_a_desk_from_texts_to_the_end(self):
        works, run, story = great_story(5)
        rng = random.Random(303)
        begin = "begin plant " + GREAT_TEXT.replace("\n", " / ")
        self.assertLessEqual(len(begin), 900)
        desk = Desk(most=400)
        self.assertEqual(desk.ask(begin), "done")
        for beat, deed in enumerate(story[0]):
            self.assertEqual(desk.ask(f"deed plant {deed}"), str(beat + 1))
            # Signs come at their own beat or any one behind.
            for sign in story[1]:
                if sign[0] == beat and rng.random() < 0.5:
                    self.assertEqual(desk.ask(f"sign plant {sign[0]} {sign[1]} {sign[2]}"), "fits")
        for sign in story[1]:
            self.assertEqual(desk.ask(f"sign plant {sign[0]} {sign[1]} {sign[2]}"), "fits")
        told = told_story(works, story)
        self.assertEqual(desk.ask("story plant"), story_text(told).replace("\n", " / "))
        self.assertEqual(desk.ask("works plant"), GREAT_TEXT.replace("\n", " / "))
        if len(max(opened(works, story, lot=[part[0] for part in works[2]], most=90000), key=len)) > 400:
            with self.assertRaises(TooMany):
                desk.ask("lots plant")
        else:
            self.assertEqual(desk.ask("lots plant"), "+")
        low, high = bounds(works, story, 8, ("loft", "cellar"), most=400)
        self.assertEqual(desk.ask("bounds plant 8 loft,cellar"), f"{low} {high}")
        self.assertEqual(desk.ask(f"sure plant 8 sum cellar,loft {low} {high}"), "sure")
        self.assertEqual(desk.ask("now plant"), "8")
        twin = desk.room().twin("plant")
        self.assertEqual(twin.stands(4), allowed(works, story, most=400)[4])
        self.assertEqual(twin.model(), model(works, story, most=400))
        before = desk.ask("reckoned")
        rows = ["stands plant 8", "deed plant hoist", "comes plant wait wait", "again 3", "model plant", "undo"]
        self.assertEqual(len(desk.run(rows)), 6)
        self.assertEqual(desk.ask("reckoned"), before)
        self.assertEqual(desk.log(), [("begin", 6), ("begin", 3), ("end", 3), ("end", 6)])
        while desk.ask("undo") == "done":
            pass
        self.assertEqual((desk.ask("names"), desk.ask("reckoned")), ("-", before))


class SizesTest(unittest.TestCase):
    def test_most_1_and_400(self):
        works = replaced(works_in(GREAT_TEXT), (1,), (("cellar", 9, 0, 9), ("loft", 9, 0, 9), ("yard", 9, 3, 6)))
        self.assertEqual(len(opened(works, ([], []), most=400)[0]), 400)
        twin = Twin(works, most=400)
        self.assertEqual(len(twin.stands(0)), 400)
        with self.assertRaises(TooMany):
            Twin(works, most=399)
        one = replaced(works, (1,), (("cellar", 9, 3, 3), ("loft", 9, 1, 1), ("yard", 9, 3, 3)))
        self.assertEqual(Twin(one, most=1).deed("wait"), 1)
        self.assertTrue(shows_account(works, ([], []), account(works, ([], []), most=400)))

    def test_four_deeds_to_come(self):
        works, _, story = great_story(6)
        deeds = ["halt", "wait", "hoist", "halt"]
        rows = what_if(works, story, deeds, most=400)
        self.assertEqual(len(rows), 4)
        held = what_bounds(works, story, deeds, ("yard", "loft", "cellar"), most=400)
        for row, (low, high) in zip(rows, held):
            self.assertEqual((low, high), (min(sum(one[1]) for one in row), max(sum(one[1]) for one in row)))

    def test_claims_of_twenty_things(self):
        works, run, story = great_story(7)
        small = ("sum", ("cellar",), 0, 9), ("mode", "tap", ("off", "on"))
        claim = ("all", (("any", small * 4), ("not", ("any", (("not", small[0]),))), ("all", small * 3)))
        self.assertTrue(is_claim(works, claim))
        self.assertEqual(claim_in(works, claim_text(claim)), claim)
        self.assertIsNone(failing(works, story, 8, claim, most=400))
        self.assertEqual(plan(works, story, claim, keep=claim, beats=3, most=400), [])

    def test_a_plan_of_three_beats(self):
        works, _, story = great_story(8)
        goal = ("all", (("mode", "tap", ("on",)), ("mode", "lift", ("up",)), ("mode", "door", ("wide",))))
        found = plan(works, story, goal, beats=3, most=400)
        self.assertEqual(found, ["fetch", "hoist", "serve"])
        self.assertTrue(shows_plan(works, story, goal, found))
        self.assertIsNone(plan(works, story, goal, beats=2, most=400))
        self.assertIsNone(needed(works, story, goal, beats=2, most=400))

    def test_a_twin_of_forty_with_undone_ones(self):
        works, _, story = great_story(9)
        acts = []
        for beat in range(9):
            acts.extend([("sign", *sign) for sign in story[1] if sign[0] == beat])
            acts.extend([("deed", deed) for deed in story[0][beat:beat + 1]])
        twin = Twin(works, most=400)
        for word, *things in acts:
            getattr(twin, word)(*things)
        for _ in range(8):
            twin.undo()
        for word, *things in acts[-8:]:
            getattr(twin, word)(*things)
        self.assertEqual(twin.story(), told_story(works, story))
        self.assertEqual([twin.undo() for _ in range(33)], [True] * 32 + [False])

    def test_a_room_of_five_twins_and_sixty_deeds(self):
        works = works_in(GREAT_TEXT)
        room = Room(most=400)
        for name in ("a", "b", "c", "d", "e"):
            room.begin(name, works)
        for at in range(55):
            room.sign("abcde"[at % 5], 0, "all", 8 + at % 3)
        self.assertEqual(len(room), 5)
        self.assertEqual(room.join("a", "b"), 0)
        like = room.like()
        self.assertEqual([room.undo() for _ in range(62)], [True] * 61 + [False])
        self.assertEqual(len(like), 5)

    def test_things_of_four_hundred_and_twelve_deep(self):
        works, _, story = great_story(10)
        wide = [(("idle", "shut", "rest", "off"), (at // 100, at // 10 % 10, at % 10)) for at in range(400)]
        for thing in (nested(12), [nested(11)], wide, tuple(wide), [wide], [wide] * 400, (wide, wide), [("a", wide)] * 400):
            for shown in (
                is_works(thing), is_story(works, thing), is_claim(works, thing), is_stand(works, thing), is_sign(works, thing),
                shows_run(works, story, thing), shows_none(works, story, thing), shows_lumps(works, wide, thing),
                shows_lot(works, story, ("tap",), thing), shows_account(works, story, thing), shows_plan(works, story, ("all", ()), thing),
            ):
                self.assertIs(shown, False)
        self.assertTrue(fits(works, wide[0], (0, "rod", 0)))


if __name__ == "__main__":
    unittest.main()
