import copy
import inspect
import random
import unittest

from tests.samples import LEAST, MILL, TUB, any_claim, any_deed, any_works, boxes_of
from tests.test_room import told_of_room, undone
from worktwin import desk as file
from worktwin.claimtext import claim_text
from worktwin.desk import DEEP, Desk
from worktwin.errors import BadReading, BadText, Busy, Known, NoBeat, NoBox, NoDeed, NoRun, NoSensor, NoTwin, TooMany, Unlike
from worktwin.room import Room
from worktwin.worktext import works_text

METHODS = {
    "ask": "(self, row)",
    "run": "(self, rows, *, keep=False, deep=2)",
    "is_open": "(self)",
    "log": "(self)",
    "room": "(self)",
}

REFUSALS = (BadReading, BadText, Busy, Known, NoBeat, NoBox, NoDeed, NoRun, NoSensor, NoTwin, TooMany, Unlike)


def desk_text(works):
    return " / ".join(works_text(works).split("\n"))


BEGIN = "begin t " + desk_text(TUB)
FILLED = [BEGIN, "deed t fill", "deed t stop"]


def desk_with(*rows, most=200):
    """A desk that was asked these rows."""
    desk = Desk(most=most)
    for row in rows:
        desk.ask(row)
    return desk


def told_by(desk):
    """All that a desk tells, but its log."""
    return [desk.is_open(), told_of_room(desk.room()), undone(desk.room())]


class InterfaceTest(unittest.TestCase):
    def test_methods_stand_in_the_class(self):
        for name, arguments in METHODS.items():
            self.assertIn(name, vars(Desk))
            self.assertEqual(str(inspect.signature(vars(Desk)[name])), arguments)
        self.assertEqual(str(inspect.signature(Desk)), "(*, most=200)")
        self.assertEqual(Desk.__module__, "worktwin.desk")
        self.assertEqual(DEEP, 2)
        self.assertIs(type(file.DEEP), int)

    def test_names(self):
        desk = Desk(most=100)
        self.assertEqual(desk.ask(row="names"), "-")
        self.assertEqual(desk.run(rows=["names"], keep=True, deep=1), ["-"])
        with self.assertRaises(TypeError):
            Desk(100)
        with self.assertRaises(TypeError):
            desk.run([], True)


class AskTest(unittest.TestCase):
    def known(self, desk, *pairs):
        for row, wanted in pairs:
            with self.subTest(row):
                self.assertEqual(desk.ask(row), wanted)

    def test_a_new_one(self):
        desk = Desk()
        self.known(desk, ("names", "-"), ("reckoned", "0"), ("undo", "none"))
        self.assertIs(desk.is_open(), True)
        self.assertEqual(desk.log(), [])
        self.assertTrue(desk.room() == Room())

    def test_known_by_hand(self):
        self.known(
            Desk(),
            (BEGIN, "done"), ("names", "t"), ("now t", "0"), ("story t", "-"), ("stands t 0", "in,shut:1 in,shut:2 in,shut:3"),
            ("deed t fill", "1"), ("deed t stop", "2"), ("now t", "2"), ("sign t 1 view 3", "fits"), ("sign t 2 rod 4", "fits"),
            ("story t", "deed fill / deed stop / sign 1 view 3 / sign 2 rod 4"), ("stands t 0", "in,shut:2 in,shut:3"),
            ("stands t 1", "in,run:4"), ("model t", "in,shut:4"), ("bounds t 0 tub", "2 3"), ("bounds t 2 tub", "4 4"),
            ("sure t 0 sum tub 2 3", "sure"), ("sure t 0 sum tub 3 3", "in,shut:2"), ("sure t 2 (not mode tap shut)", "in,shut:4"),
            ("plan t 2 sum tub 4 4", "+"), ("plan t 1 sum tub 5 6", "fill"), ("plan t 2 (all sum tub 5 6 mode tap shut)", "fill stop"),
            ("plan t 1 (all sum tub 5 6 mode tap shut)", "-"), ("plan t 0 (any)", "-"), ("comes t fill", "2"), ("comes t wait fill fill", "1 2 1"),
            ("lots t", "+"), ("reckoned", "6"), ("works t", desk_text(TUB)), ("sign t 2 rod 4", "fits"), ("reckoned", "6"),
            ("undo", "done"), ("undo", "done"), ("story t", "deed fill / deed stop / sign 1 view 3"), ("end t", "done"), ("names", "-"),
            ("undo", "done"), ("names", "t"), ("sign t 1 knob shut", "parted"), ("stands t 0", "-"), ("lots t", "tap"),
            ("sign t 1 rod 0", "parted"), ("lots t", "-"), ("undo", "done"), ("undo", "done"), ("sign t 1 rod 1", "parted"), ("lots t", "-"),
        )

    def test_lots(self):
        self.known(
            desk_with(*FILLED),
            ("lots t", "+"), ("sign t 1 rod 1", "parted"), ("lots t", "plug tap"), ("sign t 1 knob shut", "parted"), ("lots t", "tap"),
            ("undo", "done"), ("undo", "done"), ("sign t 1 knob shut", "parted"), ("sign t 1 rod 0", "parted"), ("lots t", "plug,tap"),
        )

    def test_several_parts_and_boxes(self):
        desk = desk_with("begin mill " + desk_text(MILL), "deed mill draw")
        self.known(
            desk,
            ("stands mill 0", "shut,up:3,0 shut,up:4,0"), ("bounds mill 1 pond,race", "1 4"), ("bounds mill 1 race,pond", "1 4"),
            ("bounds mill 1 race", "0 3"), ("sign mill 1 rod 0", "fits"), ("sign mill 1 eye 1", "fits"), ("model mill", "wide,down:0,1"),
            ("stands mill 1", "wide,down:0,1 wide,down:0,2"), ("works mill", desk_text(MILL)),
            ("story mill", "deed draw / sign 1 eye 1 / sign 1 rod 0"), ("comes mill close wait", "4 6"),
        )

    def test_join(self):
        desk = desk_with(*FILLED, "sign t 1 rod 4", "sign t 0 rod 2", BEGIN.replace(" t ", " s ", 1), "deed s fill")
        self.known(
            desk,
            ("names", "s t"), ("join s t", "2"), ("story s", "deed fill / sign 0 rod 2 / sign 1 rod 4"), ("join s t", "0"), ("join t t", "0"),
            ("undo", "done"), ("undo", "done"), ("undo", "done"), ("story s", "deed fill"), ("undo", "done"), ("story s", "-"),
        )

    def test_its_rooms_most(self):
        desk = desk_with(BEGIN, most=3)
        with self.assertRaises(TooMany) as caught:
            desk.ask("deed t fill")
        self.assertEqual(caught.exception.what, 3)
        with self.assertRaises(TooMany) as caught:
            desk.ask("comes t wait fill")
        self.assertEqual(caught.exception.what, 3)

    def test_beside_what_the_room_tells(self):
        rng = random.Random(291)
        for _ in range(40):
            works = any_works(rng, 2, 2, 3)
            desk, room = Desk(most=400), Room(most=400)
            rows = ["begin a " + desk_text(works), "begin b " + desk_text(works)]
            for _ in range(12):
                name, other = rng.choice("ab"), rng.choice("abc")
                rows.append(rng.choice((
                    f"deed {name} {any_deed(rng, works)}", f"join {name} {other}", "undo", f"end {name}", f"begin {name} {desk_text(works)}",
                )))
                if works[5]:
                    sensor = rng.choice(works[5])
                    reading = rng.randint(0, 6) if sensor[1] == "sum" else rng.choice(works[2])[1][0]
                    rows.append(f"sign {name} {rng.randint(0, 2)} {sensor[0]} {reading}")
            for row in rows:
                told = self.outcome(lambda: desk.ask(row))
                self.assertEqual(told, self.outcome(lambda: self.done(room, row, works)))
                self.assertTrue(desk.room() == room)
                self.assertEqual(desk.ask("reckoned"), str(room.reckoned()))
                self.assertEqual(desk.ask("names"), " ".join(room.names()) or "-")
            for name in room.names():
                self.questions(desk, room.twin(name), name, rng)

    def outcome(self, ask):
        try:
            return ask()
        except REFUSALS as refusal:
            return (type(refusal).__name__, refusal.what)

    def done(self, room, row, works):
        """What a row does to a room, and the text of what that tells."""
        word, *things = row.split(" ")
        if word == "begin":
            room.begin(things[0], works)
            return "done"
        if word == "end":
            room.end(things[0])
            return "done"
        if word == "undo":
            return "done" if room.undo() else "none"
        if word == "deed":
            return str(room.deed(*things))
        if word == "join":
            return str(room.join(*things))
        name, beat, sensor, reading = things
        return "fits" if room.sign(name, int(beat), sensor, int(reading) if reading.isdigit() else reading) else "parted"

    def questions(self, desk, twin, name, rng):
        """Each question of a twin, beside what its like tells."""
        works = twin.works()
        claim = any_claim(rng, works)

        def text(stand):
            return ",".join(stand[0]) + ":" + ",".join(str(level) for level in stand[1])

        boxes = [box[0] for box in works[1]]
        rng.shuffle(boxes)
        deeds = [any_deed(rng, works) for _ in range(rng.randint(1, 3))]
        for beat in (0, twin.now(), twin.now() + 1):
            for row, ask in (
                (f"stands {name} {beat}", lambda: " ".join(text(one) for one in twin.stands(beat)) or "-"),
                (f"bounds {name} {beat} {','.join(boxes)}", lambda: " ".join(str(one) for one in twin.bounds(beat, boxes))),
                (
                    f"sure {name} {beat} {claim_text(claim)}",
                    lambda: "sure" if twin.failing(beat, claim) is None else text(twin.failing(beat, claim)),
                ),
            ):
                self.assertEqual(self.outcome(lambda: desk.ask(row)), self.outcome(ask))
        for row, ask in (
            (f"now {name}", lambda: str(twin.now())),
            (f"lots {name}", lambda: " ".join(",".join(lot) or "+" for lot in twin.lots()) or "-"),
            (f"model {name}", lambda: text(twin.model()[-1])),
            (f"comes {name} {' '.join(deeds)}", lambda: " ".join(str(len(stands)) for stands in twin.what_if(deeds))),
        ):
            self.assertEqual(self.outcome(lambda: desk.ask(row)), self.outcome(ask))
        for beats in range(3):
            def ask():
                deeds = twin.plan(claim, beats=beats)
                return "-" if deeds is None else " ".join(deeds) or "+"
            self.assertEqual(self.outcome(lambda: desk.ask(f"plan {name} {beats} {claim_text(claim)}")), self.outcome(ask))


class RefusedTest(unittest.TestCase):
    def refused(self, error, what, row, desk=None):
        desk = desk or desk_with(*FILLED)
        before = told_by(desk)
        with self.subTest(row):
            with self.assertRaises(error) as caught:
                desk.ask(row)
            self.assertEqual(caught.exception.what, what)
            self.assertEqual(told_by(desk), before)
            self.assertEqual(desk.log(), [])
            # The same in a run, whose log has both ends.
            with self.assertRaises(error) as caught:
                desk.run([row], keep=True)
            self.assertEqual(caught.exception.what, what)
            self.assertEqual(told_by(desk), before)
            self.assertEqual(desk.log(), [("begin", 1), ("end", 0)])

    def test_what_isnt_so_written(self):
        for row in ("", "none", "undo ", "deed t", "deed t fill ", "stands t 41", "bounds t 1 a,a", "sure t 1", "plan t 1 ", "begin t works a", "a\nb"):
            self.refused(BadText, row, row)

    def test_again(self):
        for row in ("again 1", "again 40", "again 0", "again"):
            desk = desk_with(*FILLED)
            with self.assertRaises(BadText) as caught:
                desk.ask(row)
            self.assertEqual(caught.exception.what, row)
            self.assertEqual(desk.log(), [])

    def test_plan_above_three(self):
        for row in ("plan t 4 (all)", "plan t 40 (all)", "plan x 4 (all)", "plan t 4 x", "plan x 4 x"):
            self.refused(BadText, row, row)
        self.assertEqual(desk_with(*FILLED).ask("plan t 3 (all)"), "+")
        self.refused(NoTwin, "x", "plan x 3 (all)")

    def test_no_twin(self):
        for row in (
            "end x", "deed x none", "sign x 9 none none", "join x y", "join x t", "now x", "works x", "story x", "lots x", "model x", "stands x 9",
            "bounds x 9 none", "sure x 9 none", "plan x 3 none", "comes x none",
        ):
            self.refused(NoTwin, "x", row)
        self.refused(NoTwin, "y", "join t y")

    def test_claims_that_are_none_of_its_works(self):
        for text in ("x", " ", "sum", "sum none 0 1", "sum tub 0 41", "mode tap in", "sum tub 0 1 ", " sum tub 0 1", "(all", "mode tub in"):
            self.refused(BadText, text, "sure t 1 " + text)
            self.refused(BadText, text, "sure t 9 " + text)
            self.refused(BadText, text, "plan t 1 " + text)

    def test_no_box_of_the_first_that_is_none(self):
        self.refused(NoBox, "none", "bounds t 1 none")
        self.refused(NoBox, "none", "bounds t 1 tub,none,other")
        self.refused(NoBox, "tap", "bounds t 9 tap,tub")

    def test_as_the_methods(self):
        self.refused(Known, "t", BEGIN)
        self.refused(Known, "t", "begin t " + desk_text(boxes_of(9, 9, 9)))
        self.refused(TooMany, 200, "begin s " + desk_text(boxes_of(9, 9, 9)))
        self.refused(NoDeed, "none", "deed t none")
        self.refused(NoBeat, 3, "sign t 3 none none")
        self.refused(NoSensor, "none", "sign t 2 none none")
        self.refused(BadReading, "run", "sign t 2 rod run")
        self.refused(BadReading, 3, "sign t 2 knob 3")
        self.refused(BadReading, "in", "sign t 2 knob in")
        self.refused(NoBeat, 3, "stands t 3")
        self.refused(NoBeat, 3, "bounds t 3 tub")
        self.refused(NoBeat, 40, "sure t 40 (all)")
        self.refused(NoDeed, "none", "comes t fill none other")

    def test_unlike_and_no_beat_of_join(self):
        desk = lambda *rows: desk_with(*FILLED, BEGIN.replace(" t ", " s ", 1), *rows)
        self.refused(Unlike, "s", "join t s", desk("deed s stop"))
        self.refused(Unlike, "m", "join t m", desk("begin m " + desk_text(MILL)))
        self.refused(NoBeat, 2, "join s t", desk("deed s fill", "sign t 2 rod 4", "sign t 1 rod 4"))

    def test_no_run(self):
        for row in ("bounds t 1 tub", "sure t 1 (all)", "model t", "comes t fill", "plan t 0 (all)"):
            self.refused(NoRun, (), row, desk_with(*FILLED, "sign t 0 rod 4"))
        self.refused(NoBeat, 3, "sure t 3 (all)", desk_with(*FILLED, "sign t 0 rod 4"))
        self.refused(NoDeed, "none", "comes t none", desk_with(*FILLED, "sign t 0 rod 4"))


class RunTest(unittest.TestCase):
    def refused(self, desk, error, what, rows, log, **more):
        """A run that is refused: the desk is as it was, but for its log."""
        before, ahead = told_by(desk), desk.log()
        for keep in (False, True):
            with self.assertRaises(error) as caught:
                desk.run(rows, keep=keep, **more)
            self.assertEqual(caught.exception.what, what)
            self.assertEqual(told_by(desk), before)
            self.assertIs(desk.is_open(), True)
            ahead = ahead + log
            self.assertEqual(desk.log(), ahead)

    def test_no_rows(self):
        desk = desk_with(*FILLED)
        before = told_by(desk)
        for keep in (False, True):
            self.assertEqual(desk.run([], keep=keep), [])
            self.assertEqual(told_by(desk), before)
        self.assertEqual(desk.log(), [("begin", 0), ("end", 0)] * 2)

    def test_not_kept(self):
        desk = desk_with(BEGIN)
        before = told_by(desk)
        rows = ["deed t fill", "sign t 1 rod 4", "stands t 1", "reckoned", "end t", "names", "begin t " + desk_text(MILL), "undo"]
        self.assertEqual(desk.run(rows), ["1", "fits", "in,run:4", "3", "done", "-", "done", "done"])
        self.assertEqual(told_by(desk), before)
        self.assertEqual(desk.log(), [("begin", 8), ("end", 8)])
        self.assertEqual(desk.ask("reckoned"), "1")

    def test_kept(self):
        desk = desk_with(BEGIN)
        self.assertEqual(desk.run(["deed t fill", "sign t 1 rod 4"], keep=True), ["1", "fits"])
        self.assertEqual(desk.ask("story t"), "deed fill / sign 1 rod 4")
        self.assertEqual(desk.ask("reckoned"), "3")
        # What is undone is the last of its rows alone.
        self.assertEqual(desk.ask("undo"), "done")
        self.assertEqual(desk.ask("story t"), "deed fill")
        self.assertEqual([desk.ask("undo") for _ in range(3)], ["done", "done", "none"])
        self.assertEqual(desk.log(), [("begin", 2), ("end", 2)])

    def test_undo_within_a_run_reaches_ahead_of_it(self):
        desk = desk_with(*FILLED)
        before = told_by(desk)
        self.assertEqual(desk.run(["undo", "story t", "undo", "undo", "undo"]), ["done", "deed fill", "done", "done", "none"])
        self.assertEqual(told_by(desk), before)
        desk.run(["undo", "undo"], keep=True)
        self.assertEqual(desk.ask("story t"), "-")

    def test_refused_at_the_first_in_the_midst_and_at_the_last(self):
        right = ["deed t wait", "sign t 1 rod 4", "undo", "end t"]
        for at in range(5):
            for row, error, what in (
                ("none", BadText, "none"), ("deed t none", NoTwin if at == 4 else NoDeed, "t" if at == 4 else "none"), ("now x", NoTwin, "x"),
                ("sign t 1 rod 41", BadText, "sign t 1 rod 41"),
            ):
                rows = right[:at] + [row] + right[at:]
                self.refused(desk_with(*FILLED), error, what, rows, [("begin", 5), ("end", at)])

    def test_each_row_is_read_when_it_comes(self):
        self.refused(desk_with(BEGIN), NoDeed, "none", ["deed t none", "nonsense"], [("begin", 2), ("end", 0)])
        self.refused(desk_with(BEGIN), BadText, "nonsense", ["nonsense", "deed t none"], [("begin", 2), ("end", 0)])

    def test_rows_as_a_tuple_and_not_changed(self):
        rows = ["deed t fill", "again 1"]
        ahead = copy.deepcopy(rows)
        desk = desk_with(BEGIN)
        self.assertEqual(desk.run(tuple(rows)), desk.run(rows))
        self.assertEqual(rows, ahead)

    def test_again_of_one_row(self):
        desk = desk_with(BEGIN)
        self.assertEqual(desk.run(["deed t fill", "again 1", "now t"], keep=True), ["1", "1", "2"])
        self.assertEqual(desk.log(), [("begin", 3), ("begin", 1), ("end", 1), ("end", 3)])
        self.assertEqual(desk.ask("story t"), "deed fill / deed fill")
        desk.ask("undo")
        self.assertEqual(desk.ask("story t"), "deed fill")

    def test_again_of_several_rows(self):
        desk = desk_with(BEGIN)
        rows = ["now t", "deed t fill", "deed t stop", "again 2", "again 1", "story t"]
        # The second one does the first one again, whose rows ahead aren't in that run.
        self.refused(desk, BadText, "again 2", rows, [("begin", 6), ("begin", 2), ("end", 2), ("begin", 1), ("end", 0), ("end", 4)])
        rows = ["now t", "deed t fill", "deed t stop", "again 2", "story t", "again 1"]
        self.assertEqual(desk.run(rows), ["0", "1", "2", "2", "deed fill / deed stop / deed fill / deed stop", "1"])

    def test_again_among_these(self):
        desk = desk_with(BEGIN)
        rows = ["deed t fill", "again 1", "again 2", "now t"]
        # One, one more, then one and one more of it: four.
        self.assertEqual(desk.run(rows, deep=3), ["1", "1", "2", "4"])
        self.assertEqual(
            desk.log(),
            [("begin", 4), ("begin", 1), ("end", 1), ("begin", 2), ("begin", 1), ("end", 1), ("end", 2), ("end", 4)],
        )
        self.refused(
            desk, Busy, 2, rows, [("begin", 4), ("begin", 1), ("end", 1), ("begin", 2), ("end", 1), ("end", 2)],
        )
        self.refused(desk, Busy, 1, rows, [("begin", 4), ("end", 1)], deep=1)

    def test_four_deep_is_too_deep(self):
        desk = desk_with("names")
        rows = ["names", "again 1", "again 2", "again 3"]
        log = [
            ("begin", 4), ("begin", 1), ("end", 1), ("begin", 2), ("begin", 1), ("end", 1), ("end", 2),
            ("begin", 3), ("begin", 1), ("end", 1), ("begin", 2), ("end", 1), ("end", 2), ("end", 3),
        ]
        self.refused(desk, Busy, 3, rows, log, deep=3)
        self.assertEqual(desk.run(rows, deep=4), ["-", "1", "2", "3"])

    def test_more_than_are_ahead(self):
        for rows, row, done in (
            (["again 1"], "again 1", 0), (["names", "again 2"], "again 2", 1), (["names", "names", "again 40"], "again 40", 2),
            (["names", "again 1", "again 3"], "again 3", 2),
        ):
            desk = desk_with(BEGIN)
            within = [("begin", 1), ("end", 1)] * rows[:done].count("again 1")
            self.refused(desk, BadText, row, rows, [("begin", len(rows)), *within, ("end", done)])
            self.assertEqual(desk.is_open(), True)
        # Counted too far ahead of too deep.
        self.refused(desk_with(BEGIN), BadText, "again 2", ["names", "again 2"], [("begin", 2), ("end", 1)], deep=1)
        self.refused(desk_with(BEGIN), Busy, 1, ["names", "again 1"], [("begin", 2), ("end", 1)], deep=1)

    def test_busy_for_each_deep(self):
        flat = ["names", "again 1", "again 1"]
        # The third row does the second one again, ahead of which nothing is in that run: by two runs this is told first.
        log = [("begin", 3), ("begin", 1), ("end", 1), ("begin", 1), ("end", 0), ("end", 2)]
        for deep in (2, 3):
            self.refused(Desk(), BadText, "again 1", flat, log, deep=deep)
        self.refused(Desk(), Busy, 1, flat, [("begin", 3), ("end", 1)], deep=1)
        nested = ["names", "again 1", "again 2"]
        self.assertEqual(Desk().run(nested, deep=3), ["-", "1", "2"])
        self.refused(Desk(), Busy, 2, nested, [("begin", 3), ("begin", 1), ("end", 1), ("begin", 2), ("end", 1), ("end", 2)])

    def test_refused_in_a_run_within(self):
        desk = desk_with(BEGIN, "deed t fill")
        rows = ["undo", "end t", "again 1"]
        self.refused(desk, NoTwin, "t", rows, [("begin", 3), ("begin", 1), ("end", 0), ("end", 2)])
        rows = ["sign t 1 rod 4", "undo", "end t", "begin s " + desk_text(LEAST), "again 3"]
        self.refused(desk, NoTwin, "t", rows, [("begin", 5), ("begin", 3), ("end", 1), ("end", 4)])

    def test_what_a_run_within_does_is_the_outer_ones(self):
        desk = desk_with(BEGIN)
        before = told_by(desk)
        self.assertEqual(desk.run(["deed t fill", "again 1", "story t"])[2], "deed fill / deed fill")
        self.assertEqual(told_by(desk), before)
        self.refused(desk, NoDeed, "none", ["deed t fill", "again 1", "deed t none"], [("begin", 3), ("begin", 1), ("end", 1), ("end", 2)])
        desk.run(["deed t fill", "again 1"], keep=True)
        self.assertEqual(desk.ask("now t"), "2")

    def test_reckoned_behind_runs(self):
        desk = desk_with(*FILLED)
        self.assertEqual(desk.ask("reckoned"), "3")
        desk.run(["deed t wait", "sign t 0 rod 2", "again 2", "reckoned"])
        self.assertEqual(desk.ask("reckoned"), "3")
        self.assertEqual(desk.room().twin("t").reckoned(), 3)
        self.assertEqual(desk.run(["deed t wait", "sign t 0 rod 2", "reckoned", "undo", "undo"], keep=True)[2], "8")
        self.assertEqual(desk.ask("reckoned"), "8")
        with self.assertRaises(NoTwin):
            desk.run(["deed t wait", "end t", "end t"], keep=True)
        self.assertEqual(desk.ask("reckoned"), "8")

    def test_texts_are_the_askers_own(self):
        desk = desk_with(BEGIN)
        found = desk.run(["names", "names"])
        found.clear()
        self.assertEqual(desk.run(["names"]), ["t"])
        desk.log().clear()
        self.assertEqual(len(desk.log()), 4)
        self.assertTrue(all(type(one) is tuple for one in desk.log()))

    def test_room_is_given_out_as_it_is_now(self):
        desk = desk_with(*FILLED)
        room = desk.room()
        self.assertIs(type(room), Room)
        before = told_by(desk)
        room.deed("t", "fill")
        room.begin("s", MILL)
        while room.undo():
            pass
        self.assertEqual(told_by(desk), before)
        room = desk.room()
        desk.ask("deed t fill")
        self.assertEqual(room.twin("t").now(), 2)
        self.assertEqual(desk.room().twin("t").now(), 3)
        room = desk.room()
        desk.run(["end t"], keep=True)
        self.assertEqual(room.names(), ["t"])

    def test_asked_again_behind_refused_runs(self):
        desk = desk_with(BEGIN)
        for _ in range(3):
            with self.assertRaises(BadText):
                desk.run(["deed t fill", "again 1", "again 9"], deep=3)
            self.assertEqual(desk.run(["deed t fill", "again 1"]), ["1", "1"])

    def test_thirty_rows(self):
        desk = desk_with(BEGIN)
        rows = ["sign t 0 view 2", "stands t 0", "undo"] * 9 + ["again 3", "again 1", "names"]
        self.refused(desk, BadText, "again 3", rows, [("begin", 30), ("begin", 3), ("end", 3), ("begin", 1), ("end", 0), ("end", 28)])
        rows = ["sign t 0 view 2", "stands t 0", "undo"] * 9 + ["again 27", "names", "again 29"]
        found = desk.run(rows, keep=True, deep=3)
        self.assertEqual(len(found), 30)
        self.assertEqual(found[-3:], ["27", "t", "29"])
        self.assertEqual(desk.ask("reckoned"), "37")


class AnyTest(unittest.TestCase):
    def test_runs_beside_rows_asked_one_by_one(self):
        rng = random.Random(292)
        for _ in range(60):
            rows = [BEGIN]
            for _ in range(rng.randint(1, 8)):
                rows.append(rng.choice((
                    "deed t fill", "deed t wait", "deed t stop", "sign t 0 view 2", "sign t 1 rod 3", "sign t 1 view 4", "undo", "end t",
                    "reckoned", "story t", BEGIN, "join t t", "stands t 1",
                )))
            run, asked = Desk(), Desk()
            told = []
            for row in rows:
                try:
                    told.append(asked.ask(row))
                except REFUSALS as refusal:
                    with self.assertRaises(type(refusal)) as caught:
                        run.run(rows, keep=True)
                    self.assertEqual(caught.exception.what, refusal.what)
                    self.assertEqual(told_by(run), told_by(Desk()))
                    self.assertEqual(run.log(), [("begin", len(rows)), ("end", len(told))])
                    break
            else:
                self.assertEqual(run.run(rows), told)
                self.assertEqual(told_by(run), told_by(Desk()))
                self.assertEqual(run.run(rows, keep=True), told)
                self.assertEqual(told_by(run), told_by(asked))


if __name__ == "__main__":
    unittest.main()
