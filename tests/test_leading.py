import copy
import random
import unittest

from tests import plain
from tests.samples import FILL, LEAST, MILL, TUB, any_claim, any_deed, any_lot, any_story, any_things, any_works, boxes_of, replaced, swapped
from worktwin import leading as file
from worktwin.errors import NoRun, TooMany
from worktwin.leading import BEATS, needed, plan, shows_plan

YES = ("all", ())
NO = ("any", ())

# A lock that turns one way and another; "next" turns it on, "zero" back; "wait" stands between them by its letters.
LOCK = (
    "lock",
    (("cup", 6, 2, 3),),
    (("ring", ("a", "b", "c"), ("c",)), ("spout", ("off", "on"), ())),
    (("", "cup", "spout", "on", 1, 2), ("cup", "", "ring", "c", 1, 1)),
    (("next", (("ring", "b"),)), ("pour", (("spout", "on"),)), ("third", (("ring", "c"), ("spout", "off"))), ("zero", (("ring", "a"), ("spout", "off")))),
    (("dial", "part", "ring"), ("mark", "sum", ("cup",), 1), ("rod", "sum", ("cup",), 0)),
)


def level(low, high, box="cup"):
    return ("sum", (box,), low, high)


def mode(part, *modes):
    return ("mode", part, modes)


def any_lock(rng):
    """A cup that a ring fills, drains or leaves, by amounts that are mostly known; and a goal for it."""
    low = rng.randint(0, 4)
    pipes = []
    for ends, turn in ((("", "cup"), "b"), (("cup", ""), "c"), (("", "cup"), "d")):
        least = rng.randint(1, 2)
        pipes.append((*ends, "ring" if turn != "d" else "spout", turn if turn != "d" else "on", least, least + rng.choice((0, 0, 0, 1))))
    names = sorted(rng.sample(("drain", "fill", "still", "turn", "xfill", "yet", "zero"), 4))
    turns = [(("ring", "c"),), (("ring", "b"),), (("ring", "a"), ("spout", "off")), (("spout", "on"),)]
    rng.shuffle(turns)
    sensors = [("dial", "part", "ring"), ("mark", "sum", ("cup",), 1), ("rod", "sum", ("cup",), 0), ("view", "part", "spout")]
    works = (
        "lock",
        (("cup", 7, low, low + rng.randint(1, 3)),),
        (("ring", ("a", "b", "c"), ()), ("spout", ("off", "on"), ())),
        tuple(pipes),
        tuple(zip(names, turns)),
        tuple(sorted(rng.sample(sensors, 3))),
    )
    at = rng.randint(0, 6)
    return works, level(at, at + rng.choice((0, 1, 2, 2)))


class PlanTest(unittest.TestCase):
    def check(self, wanted, story, goal, works=LOCK, **more):
        with self.subTest((goal, more)):
            found = plan(works, story, goal, **more)
            self.assertEqual(found, wanted)
            shown = {name: worth for name, worth in more.items() if name in ("keep", "lot")}
            if wanted is not None:
                self.assertIs(type(found), list)
                self.assertIs(shows_plan(works, story, goal, found, **shown), True)

    def test_beats_is_two(self):
        self.assertEqual(BEATS, 2)
        self.assertIs(type(file.BEATS), int)

    def test_the_bare_list(self):
        for beats in range(4):
            self.check([], ([], []), YES, beats=beats)
            self.check([], ([], []), level(2, 3), beats=beats)
            self.check([], (["next"], []), mode("ring", "b"), beats=beats)

    def test_one_deed(self):
        self.check(["next"], ([], []), mode("ring", "b"))
        self.check(["pour"], ([], []), mode("spout", "on"))
        self.check(["zero"], (["next"], []), mode("ring", "a"))
        self.check(["pour"], ([], []), level(3, 5), beats=1)
        self.check(["third"], ([], []), level(1, 2), beats=3)

    def test_wait_leads(self):
        # The spout flows on, whatever is done; to wait is among the deeds by its letters.
        goal = ("all", (level(4, 6), mode("ring", "a")))
        self.check(["next"], (["pour"], []), level(4, 6))
        self.check(["pour"], (["pour"], []), goal)
        works = replaced(LOCK, (4,), (LOCK[4][0], ("xpour", LOCK[4][1][1]), LOCK[4][3]))
        self.check(["wait"], (["xpour"], []), goal, works=works)

    def test_two_deeds(self):
        self.check(["next", "pour"], ([], []), ("all", (mode("ring", "b"), mode("spout", "on"))))
        self.check(None, ([], []), ("all", (mode("ring", "b"), mode("spout", "on"))), beats=1)
        self.check(["third", "zero"], ([], []), ("all", (level(1, 2), mode("ring", "a"))))

    def test_three_deeds(self):
        goal = ("all", (mode("ring", "b"), mode("spout", "on"), level(3, 5)))
        self.check(["next", "pour"], ([], []), goal, beats=3)
        goal = ("all", (mode("ring", "b"), mode("spout", "off"), level(0, 1)))
        self.check(None, ([], []), goal, beats=2)
        self.check(["third", "third", "next"], ([], []), goal, beats=3)

    def test_of_like_ones_the_first_as_lists_rise(self):
        # Both next and pour may come first; then third ahead of wait, wait ahead of zero.
        self.check(["next", "pour"], ([], []), ("all", (mode("ring", "b"), mode("spout", "on"))), beats=3)
        self.check(["third"], (["third"], [(1, "rod", 2)]), ("all", (mode("ring", "c"), level(1, 1))))
        works = replaced(LOCK, (4, 2, 0), "xthird")
        self.check(["wait"], (["xthird"], [(1, "rod", 2)]), ("all", (mode("ring", "c"), level(1, 1))), works=works)
        self.check(["wait"], (["xthird"], []), ("all", (mode("ring", "c"), level(0, 1))), works=works)
        self.check(["next"], ([], []), ("all", (("not", mode("ring", "a")), level(2, 3))), works=works)

    def test_fewer_go_first(self):
        self.check(["zero"], (["next"], []), mode("ring", "a"), beats=3)
        self.check([], (["next"], []), mode("ring", "a", "b"), beats=3)

    def test_none(self):
        for beats in range(4):
            self.check(None, ([], []), NO, beats=beats)
            self.check(None, ([], []), level(6, 6), beats=min(beats, 1))
        self.check(None, (["pour"], []), level(4, 4), beats=3)

    def test_beats_0(self):
        self.check(None, ([], []), mode("ring", "b"), beats=0)
        self.check([], ([], []), mode("ring", "a"), beats=0)

    def test_keep(self):
        self.check(["next"], ([], []), mode("ring", "b"), keep=YES)
        self.check(None, ([], []), mode("ring", "b"), keep=NO)
        # It must hold at the beginning, between, and at the end.
        self.check(None, ([], []), mode("ring", "b"), keep=mode("ring", "b"), beats=3)
        self.check([], (["next"], []), mode("ring", "b"), keep=mode("ring", "b"), beats=3)
        self.check(None, (["next"], []), mode("ring", "b"), keep=mode("ring", "a", "c"), beats=3)
        goal = ("all", (level(1, 2), mode("ring", "a")))
        self.check(["third", "zero"], ([], []), goal, keep=level(1, 3))
        self.check(None, ([], []), goal, keep=level(2, 3))
        self.check(None, ([], []), goal, keep=mode("ring", "a", "b"), beats=3)
        self.check(None, ([], []), YES, keep=level(2, 2))
        self.check([], ([], [(0, "rod", 2)]), YES, keep=level(2, 2))
        self.check([], ([], []), YES, keep=None)

    def test_from_all_that_is_allowed_at_the_last_beat(self):
        self.check(["third"], ([], [(0, "rod", 3)]), level(2, 2))
        self.check([], ([], [(0, "rod", 2)]), level(2, 2))
        self.check(None, ([], []), level(2, 2), beats=3)
        # By whatever flows: 3 to 5 behind pour, so not all are 4.
        self.check(None, ([], []), level(4, 4), beats=1)
        self.check(["pour"], ([], [(0, "rod", 3)]), level(4, 5), beats=1)
        self.check([], (["pour"], [(1, "rod", 4)]), level(4, 4))
        self.check(["next", "zero"], (["pour"], [(1, "mark", 6)]), ("all", (level(6, 6), mode("spout", "off"))))

    def test_by_lots(self):
        self.check(["next"], ([], []), mode("ring", "b"))
        self.check(None, ([], []), mode("ring", "b"), lot=("ring",), beats=3)
        self.check(["pour"], ([], []), mode("spout", "on"), lot=("ring",))
        self.check([], (["next"], [(1, "dial", "a")]), mode("ring", "a"), lot=["ring"])
        self.check(["next"], ([], []), mode("ring", "b"), lot=("spout",))
        self.check(None, ([], []), mode("spout", "on"), lot=("ring", "spout"), beats=3)

    def test_lists_for_tuples_and_names(self):
        story, goal, keep = (["draw"], [(1, "eye", 4)]), ("not", ("sum", ("pond", "race"), 3, 40)), ("any", (YES, mode("gate", "ajar")))
        handed = [swapped(MILL), swapped(story), swapped(goal), swapped(keep), ["gate"]]
        ahead = copy.deepcopy(handed)
        for ask in (plan, needed):
            found = ask(handed[0], handed[1], handed[2], keep=handed[3], beats=3, lot=handed[4])
            self.assertEqual(found, ask(works=MILL, story=story, goal=goal, keep=keep, beats=3, lot=("gate",), most=200))
            with self.assertRaises(TypeError):
                ask(MILL, story, goal, keep)
        self.assertEqual(
            shows_plan(handed[0], handed[1], handed[2], ["wait"], keep=handed[3], lot=handed[4]),
            shows_plan(works=MILL, story=story, goal=goal, thing=["wait"], keep=keep, lot=("gate",)),
        )
        self.assertEqual(handed, ahead)

    def test_told_lists_are_the_askers_own(self):
        found = plan(LOCK, ([], []), mode("ring", "b"))
        found.append("more")
        self.assertEqual(plan(LOCK, ([], []), mode("ring", "b")), ["next"])

    def test_as_the_document_words_it(self):
        rng = random.Random(251)
        told, tried = [], 0
        while tried < 250:
            works = any_works(rng, 2, 2, 3)
            lot = any_lot(rng, works) if tried % 2 else ()
            story = plain.lived_story(rng, works, lot) if tried % 3 else any_story(rng, works)
            rows = plain.allowed(works, story, lot)
            if rows is None or not rows[-1] or len(rows[-1]) > 60:
                continue
            tried += 1
            goal = any_claim(rng, works)
            keep = any_claim(rng, works) if rng.random() < 0.4 else None
            beats = rng.choice((0, 1, 2, 2))
            wanted = plain.first_list(works, rows[-1], goal, keep, beats, lot)
            self.assertEqual(plan(works, story, goal, keep=keep, beats=beats, lot=lot, most=4000), wanted)
            told.append(None if wanted is None else len(wanted))
            thing = [any_deed(rng, works) for _ in range(rng.randint(0, 3))]
            right = plain.leads(works, rows[-1], thing, goal, keep, lot)
            self.assertIs(shows_plan(works, story, goal, thing, keep=keep, lot=lot), right)
        self.assertGreater(min(told.count(None), told.count(0), told.count(1)), 8)
        self.assertGreater(told.count(2), 0)


class ShowsPlanTest(unittest.TestCase):
    GOAL = ("all", (mode("ring", "b"), mode("spout", "on")))

    def shown(self, right, *things, story=([], []), goal=GOAL, **more):
        for thing in things:
            with self.subTest(thing):
                self.assertIs(shows_plan(LOCK, story, goal, thing, **more), right)

    def test_lists_that_lead(self):
        self.shown(True, ["next", "pour"], ["pour", "next"], ["wait", "next", "pour"], ["zero", "third", "next", "pour"])
        self.shown(True, ["next", "pour"] + ["wait"] * 300)
        self.shown(True, [], ["wait"], ["next"], story=(["next", "pour"], []))

    def test_lists_that_dont_lead(self):
        self.shown(False, [], ["next"], ["pour"], ["next", "pour", "zero"], ["wait", "wait"], ["next", "pour", "third"])
        self.shown(False, ["next", "pour"], lot=("ring",))
        self.shown(False, ["next", "pour"], keep=mode("spout", "off"))
        self.shown(False, ["next", "pour"], keep=mode("ring", "a"))
        self.shown(False, ["next", "pour"], keep=mode("ring", "b"))
        self.shown(True, ["next", "pour"], keep=mode("ring", "a", "b"))

    def test_the_first_ones_keep_counts_too(self):
        self.shown(False, [], goal=YES, keep=level(2, 2))
        self.shown(False, ["third"], goal=level(1, 2), keep=level(0, 2))
        self.shown(True, ["third"], goal=level(1, 2), keep=level(0, 3))

    def test_what_is_no_deed(self):
        for other in ("", "none", "ring", "Next", "next ", 0, None, True, ["next"], ("next",)):
            self.shown(False, [other], ["next", other], [other, "next", "pour"], goal=YES)
        self.shown(False, ("next", "pour"), ("next",), "next", "", None, True, 0, goal=YES)
        self.shown(False, (), goal=YES)
        self.shown(True, [], goal=YES)

    def test_no_stand_is_allowed(self):
        for goal in (YES, NO):
            self.shown(False, [], ["wait"], ["next", "pour"], story=([], [(0, "rod", 6)]), goal=goal)
            self.shown(False, [], ["wait"], story=(["next"], [(1, "dial", "a")]), goal=goal)
        self.shown(True, [], story=(["next"], [(1, "dial", "a")]), goal=YES, lot=("ring",))

    def test_more_open_than_most_usually_is(self):
        works = boxes_of(9, 9, 9)
        self.assertIs(shows_plan(works, ([], []), ("mode", "p", ("m",)), ["wait"]), True)
        self.assertIs(shows_plan(works, ([], []), ("sum", ("a", "b", "c"), 0, 26), ["wait"]), False)

    def test_any_thing_is_told_of_and_not_changed(self):
        for thing in any_things(252):
            ahead = repr(thing)
            self.shown(ahead == "[]", thing, goal=YES)
            self.shown(False, thing)
            self.assertEqual(repr(thing), ahead)


class NeededTest(unittest.TestCase):
    def test_none_where_there_is_a_plan(self):
        for goal in (YES, mode("ring", "b"), level(2, 3), ("all", (mode("ring", "b"), mode("spout", "on")))):
            self.assertIsNotNone(plan(LOCK, ([], []), goal))
            self.assertIsNone(needed(LOCK, ([], []), goal))

    def test_none_where_no_sensor_helps(self):
        self.assertIsNone(needed(LOCK, ([], []), NO))
        self.assertIsNone(needed(LOCK, ([], []), level(6, 6), beats=0))
        self.assertIsNone(needed(LOCK, (["pour"], []), level(4, 4), beats=0))
        self.assertIsNone(needed(LEAST, ([], []), NO, beats=3))

    def test_the_first_sensor_that_helps(self):
        # 2 or 3: what is 3 goes down by one, what is 2 stays; a mark may be read of both.
        self.assertEqual(needed(LOCK, ([], []), level(2, 2)), ("rod", [(2, []), (3, ["third"])]))
        self.assertEqual(needed(LOCK, ([], []), level(2, 2), beats=1), ("rod", [(2, []), (3, ["third"])]))
        self.assertIsNone(needed(LOCK, ([], []), level(2, 2), beats=0))
        # By a mark, too, where it is told no closer.
        works = replaced(LOCK, (5, 1, 3), 0)
        self.assertEqual(needed(works, ([], []), level(2, 2)), ("mark", [(2, []), (3, ["third"])]))

    def test_sensors_of_parts(self):
        # The ring stands in a, or in b: either it stayed or it went.
        story = (["next"], [])
        goal = ("all", (level(2, 3), mode("ring", "a", "b")))
        self.assertEqual(plan(LOCK, story, goal, lot=("spout",)), [])
        works = replaced(LOCK, (2, 0), ("ring", ("a", "b", "c"), ()))
        found = needed(works, story, ("any", (mode("ring", "c"), level(9, 9))), lot=("ring",))
        self.assertIsNone(found)
        goal = ("any", (("all", (mode("ring", "a"), mode("spout", "on"))), ("all", (mode("ring", "b"), mode("spout", "off")))))
        self.assertIsNone(plan(works, story, goal, lot=("ring",)))
        self.assertEqual(needed(works, story, goal, lot=("ring",)), ("dial", [("a", ["pour"]), ("b", [])]))

    def test_a_row_for_each_reading_that_fits_rising(self):
        works = replaced(LOCK, (5,), (LOCK[5][1],))
        self.assertIsNone(needed(works, ([], []), level(2, 2), beats=3))
        works = replaced(LOCK, (1, 0), ("cup", 6, 2, 5))
        found = needed(works, ([], []), level(3, 4), beats=3)
        self.assertEqual(found, ("rod", [(2, ["pour"]), (3, []), (4, []), (5, ["third"])]))
        # A mark is one more or less: of 5 and 6 the ring must drain, of 4, which may be 5, it may.
        found = needed(works, ([], []), level(2, 4), beats=1)
        third = ["third"]
        self.assertEqual(found, ("mark", [(1, []), (2, []), (3, []), (4, third), (5, third), (6, third)]))

    def test_keep(self):
        self.assertEqual(needed(LOCK, ([], []), level(2, 2), keep=level(2, 3)), ("rod", [(2, []), (3, ["third"])]))
        self.assertIsNone(needed(LOCK, ([], []), level(2, 2), keep=mode("ring", "a", "b"), beats=3))
        self.assertIsNone(needed(LOCK, ([], []), level(2, 2), keep=NO))

    def test_kinds_and_own_lists(self):
        found = needed(LOCK, ([], []), level(2, 2))
        self.assertIs(type(found), tuple)
        self.assertIs(type(found[1]), list)
        self.assertTrue(all(type(row) is tuple and type(row[1]) is list for row in found[1]))
        works = replaced(LOCK, (1, 0), ("cup", 6, 2, 5))
        found = needed(works, ([], []), level(3, 4), beats=3)
        self.assertEqual(len({id(row[1]) for row in found[1]}), 4)
        again = copy.deepcopy(found)
        for row in found[1]:
            row[1].append("more")
        found[1].clear()
        self.assertEqual(needed(works, ([], []), level(3, 4), beats=3), again)

    def test_as_the_document_words_it(self):
        rng = random.Random(253)
        told = []
        while len(told) < 80:
            works, goal = any_lock(rng)
            lot = any_lot(rng, works) if len(told) % 3 == 0 else ()
            story = ([any_deed(rng, works) for _ in range(rng.randint(0, 1))], [])
            stands = plain.allowed(works, story, lot)[-1]
            keep = rng.choice((None, None, level(0, 5), level(1, 7)))
            beats = rng.choice((0, 1, 2, 2))
            found = needed(works, story, goal, keep=keep, beats=beats, lot=lot)
            if found is None and rng.random() < 0.85:
                continue
            self.assertEqual(found, plain.needed(works, stands, goal, keep, beats, lot))
            told.append(found)
        self.assertGreater(len([one for one in told if one is not None]), 20)
        self.assertGreater(len({one[0] for one in told if one is not None}), 1)


class RefusedTest(unittest.TestCase):
    def refused(self, error, what, works, story, **more):
        for ask in (plan, needed):
            for goal in (YES, NO):
                with self.assertRaises(error) as caught:
                    ask(works, story, goal, **more)
                self.assertEqual(caught.exception.what, what)
                self.assertIs(type(caught.exception.what), type(what))

    def test_too_many_by_the_storys_beats_alone(self):
        # 3, 4 and 4 are open.
        self.refused(TooMany, 3, TUB, (FILL, []), most=3)
        self.refused(TooMany, 200, boxes_of(9, 9, 2), ([], []))
        self.assertEqual(plan(boxes_of(9, 9, 1), ([], []), YES), [])
        self.assertEqual(plan(boxes_of(9, 9, 2), ([], []), YES, most=300), [])
        # One is open, but behind the deeds of a list there are more.
        story = ([], [(0, "rod", 1)])
        self.assertEqual(plan(TUB, story, ("sum", ("tub",), 3, 5), most=1), ["fill", "fill"])
        self.assertIsNone(plan(TUB, story, ("sum", ("tub",), 5, 5), beats=3, most=1))
        self.assertIsNone(needed(TUB, story, ("sum", ("tub",), 5, 5), beats=3, most=1))

    def test_no_run(self):
        for sign in ((0, "rod", 4), (1, "rod", 6), (2, "rod", 1), (2, "knob", "run")):
            self.refused(NoRun, (), TUB, (FILL, [sign]))
            self.refused(NoRun, (), TUB, (FILL, [sign]), lot=[], beats=0)
        self.refused(NoRun, ("plug",), TUB, (FILL, [(1, "knob", "shut")]), lot=["plug"])
        self.refused(NoRun, ("plug", "tap"), TUB, (FILL, [(1, "rod", 6)]), lot=("plug", "tap"), keep=NO)

    def test_too_many_goes_ahead_of_no_run(self):
        self.refused(TooMany, 3, TUB, (FILL, [(2, "rod", 9)]), most=3)
        self.refused(NoRun, (), TUB, (FILL, [(2, "rod", 9)]), most=4)


if __name__ == "__main__":
    unittest.main()
