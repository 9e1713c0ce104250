import copy
import inspect
import random
import unittest

from tests.samples import FILL, LEAST, MILL, TUB, any_claim, any_deed, any_lot, any_stand, any_things, any_works, boxes_of, replaced, some_of, swapped
from worktwin.allowed import allowed, opened
from worktwin.errors import BadReading, NoBeat, NoDeed, NoRun, NoSensor, TooMany
from worktwin.leading import plan
from worktwin.lots import lots
from worktwin.model import model
from worktwin.signs import readings
from worktwin.stories import told_story
from worktwin.sure import bounds, failing
from worktwin.twin import Twin
from worktwin.whatif import what_if

METHODS = {
    "deed": "(self, name)",
    "sign": "(self, beat, sensor, reading)",
    "reckoned": "(self)",
    "undo": "(self)",
    "now": "(self)",
    "story": "(self)",
    "works": "(self)",
    "stands": "(self, beat)",
    "bounds": "(self, beat, some)",
    "failing": "(self, beat, claim)",
    "lots": "(self)",
    "model": "(self)",
    "what_if": "(self, deeds)",
    "plan": "(self, goal, *, keep=None, beats=2)",
    "like": "(self)",
}

YES = ("all", ())


def levels(stands):
    return [stand[1][0] for stand in stands]


def fed(works, deeds, signs, **more):
    """A twin to which all of these were done, all deeds first."""
    twin = Twin(works, **more)
    for deed in deeds:
        twin.deed(deed)
    for sign in signs:
        twin.sign(*sign)
    return twin


def asked(ask, *things, **more):
    """What is told, or refused: the class and what."""
    try:
        return ("told", ask(*things, **more))
    except (BadReading, NoBeat, NoDeed, NoRun, NoSensor, TooMany) as refusal:
        return (type(refusal).__name__, refusal.what)


def told_of(twin):
    """All that a twin tells, without asking it too much."""
    beats = range(twin.now() + 1)
    return [
        twin.story(), twin.works(), twin.now(), twin.reckoned(), [twin.stands(beat) for beat in beats], asked(twin.lots),
        asked(twin.model), asked(twin.what_if, ["wait"]),
    ]


class InterfaceTest(unittest.TestCase):
    def test_methods_stand_in_the_class(self):
        for name, arguments in METHODS.items():
            self.assertIn(name, vars(Twin))
            self.assertEqual(str(inspect.signature(vars(Twin)[name])), arguments)
        self.assertEqual(str(inspect.signature(Twin)), "(works, *, lot=(), most=200)")
        self.assertIn("__eq__", vars(Twin))
        self.assertEqual(Twin.__module__, "worktwin.twin")

    def test_names(self):
        twin = Twin(works=TUB, lot=("plug",), most=100)
        self.assertEqual(twin.deed(name="fill"), 1)
        self.assertIs(twin.sign(beat=1, sensor="rod", reading=3), True)
        self.assertEqual(levels(twin.stands(beat=1)), levels(twin.stands(1)))
        self.assertEqual(twin.bounds(beat=1, some=("tub",)), (3, 3))
        self.assertIsNone(twin.failing(beat=1, claim=YES))
        self.assertEqual(len(twin.what_if(deeds=["wait"])), 1)
        self.assertEqual(twin.plan(goal=YES, keep=None, beats=0), [])
        with self.assertRaises(TypeError):
            Twin(TUB, ())
        with self.assertRaises(TypeError):
            twin.plan(YES, None)


class FedTest(unittest.TestCase):
    def test_a_new_one(self):
        twin = Twin(TUB)
        self.assertEqual((twin.now(), twin.story(), twin.works()), (0, ([], []), TUB))
        self.assertEqual(levels(twin.stands(0)), [1, 2, 3])
        self.assertEqual(twin.reckoned(), 1)

    def test_deed_by_deed_and_sign_by_sign(self):
        twin = Twin(TUB)
        self.assertEqual(twin.deed("fill"), 1)
        self.assertIs(twin.sign(1, "view", 3), True)
        self.assertEqual(levels(twin.stands(1)), [2, 3, 4])
        self.assertEqual(twin.deed("wait"), 2)
        self.assertEqual(levels(twin.stands(2)), [3, 4, 5, 6])
        self.assertIs(twin.sign(2, "rod", 5), True)
        self.assertEqual(twin.deed("stop"), 3)
        self.assertEqual([levels(twin.stands(beat)) for beat in range(4)], [[1, 2, 3], [3, 4], [5], [5]])
        self.assertEqual(twin.now(), 3)
        self.assertEqual(twin.story(), (["fill", "wait", "stop"], [(1, "view", 3), (2, "rod", 5)]))

    def test_late_signs_leave_all_as_if_they_had_come_in_time(self):
        twin = fed(TUB, FILL, [(2, "view", 4), (0, "rod", 2), (1, "rod", 4)])
        other = Twin(TUB)
        other.sign(0, "rod", 2)
        other.deed("fill")
        other.sign(1, "rod", 4)
        other.deed("stop")
        other.sign(2, "view", 4)
        self.assertTrue(twin == other)
        self.assertEqual(twin.story(), other.story())
        self.assertEqual([twin.stands(beat) for beat in range(3)], [other.stands(beat) for beat in range(3)])
        self.assertEqual(twin.model(), other.model())

    def test_signs_twice(self):
        twin = fed(TUB, FILL, [(1, "rod", 4)])
        before = told_of(twin)
        for _ in range(3):
            self.assertIs(twin.sign(1, "rod", 4), True)
            self.assertEqual(told_of(twin), before)
        self.assertEqual(twin.story(), (FILL, [(1, "rod", 4)]))

    def test_signs_that_part(self):
        twin = fed(TUB, FILL, [])
        self.assertIs(twin.sign(1, "rod", 4), True)
        self.assertIs(twin.sign(1, "rod", 5), False)
        self.assertEqual([twin.stands(beat) for beat in range(3)], [[], [], []])
        self.assertIs(twin.sign(1, "rod", 5), False)
        self.assertIs(twin.sign(0, "rod", 1), False)
        self.assertEqual(twin.deed("wait"), 3)
        self.assertEqual(twin.stands(3), [])
        self.assertEqual(twin.story()[1], [(0, "rod", 1), (1, "rod", 4), (1, "rod", 5)])
        self.assertEqual(twin.lots(), [])

    def test_by_a_lot(self):
        for lot in (("tap",), ["tap"]):
            twin = Twin(TUB, lot=lot)
            twin.deed("fill")
            self.assertIs(twin.sign(1, "knob", "shut"), True)
            self.assertEqual(levels(twin.stands(1)), [1, 2, 3])
            self.assertEqual(twin.lots(), [("tap",)])
        self.assertIs(fed(TUB, FILL, []).sign(1, "knob", "shut"), False)

    def test_readings_at_their_ends(self):
        twin = Twin(TUB)
        for reading in (0, 40):
            self.assertIs(twin.sign(0, "view", reading), False if reading == 40 else True)


class RefusedTest(unittest.TestCase):
    def refused(self, error, what, ask, *things):
        with self.assertRaises(error) as caught:
            ask(*things)
        self.assertEqual(caught.exception.what, what)
        self.assertIs(type(caught.exception.what), type(what))

    def test_too_many_of_a_new_one(self):
        for works, most, lot in ((TUB, 2, ()), (TUB, 1, ("plug",)), (boxes_of(9, 9, 2), 299, ())):
            with self.assertRaises(TooMany) as caught:
                Twin(works, lot=lot, most=most)
            self.assertEqual(caught.exception.what, most)
        Twin(TUB, most=3)
        with self.assertRaises(TooMany) as caught:
            Twin(boxes_of(9, 9, 2))
        self.assertEqual(caught.exception.what, 200)
        Twin(boxes_of(9, 9, 1))
        Twin(boxes_of(9, 9, 2), most=300)

    def test_no_deed(self):
        twin = fed(TUB, FILL, [])
        before = told_of(twin)
        for name in ("", "none", "tap", "Fill", "wait ", "fill\n", "f" * 3000):
            self.refused(NoDeed, name, twin.deed, name)
        self.assertEqual(told_of(twin), before)
        # Also where none is open any more.
        twin.sign(0, "rod", 4)
        self.refused(NoDeed, "none", twin.deed, "none")
        self.assertEqual(twin.deed("wait"), 3)

    def test_too_many_of_a_deed(self):
        # 3 are open, then 4.
        twin = Twin(TUB, most=3)
        before = told_of(twin)
        self.refused(NoDeed, "none", twin.deed, "none")
        self.refused(TooMany, 3, twin.deed, "fill")
        self.assertEqual(told_of(twin), before)
        self.assertIs(twin.undo(), False)
        self.assertEqual(twin.deed("wait"), 1)
        self.refused(TooMany, 3, twin.deed, "fill")
        self.assertIs(twin.sign(0, "view", 1), True)
        self.assertEqual(twin.deed("fill"), 2)
        self.assertEqual(twin.reckoned(), 1 + 1 + 2 + 1)
        twin = Twin(TUB, most=6, lot=("plug",))
        self.refused(TooMany, 6, twin.deed, "fill")

    def test_signs(self):
        twin = fed(TUB, FILL, [])
        before = told_of(twin)
        for beat in (3, -1, 10 ** 30, True, False, None, "1", "", [], [1], (1,), ()):
            self.refused(NoBeat, beat, twin.sign, beat, "rod", 3)
            self.refused(NoBeat, beat, twin.sign, beat, "none", None)
        for sensor in ("", "none", "tub", "Rod", None, 0, True, ["rod"], ("rod",), [], [[None]]):
            self.refused(NoSensor, sensor, twin.sign, 1, sensor, 3)
            self.refused(NoSensor, sensor, twin.sign, 1, sensor, [])
        for reading in (-1, 41, 10 ** 30, True, False, None, "3", "", "run", [], [3], (3,)):
            self.refused(BadReading, reading, twin.sign, 1, "rod", reading)
        for reading in (0, 1, True, None, "", "in", "tap", "Run", ["run"], ("run",)):
            self.refused(BadReading, reading, twin.sign, 1, "knob", reading)
        for thing in any_things(261, 60):
            # A number of one of its beats would be one.
            if repr(thing) not in ("0", "1"):
                self.refused(NoBeat, thing, twin.sign, thing, "rod", 3)
            self.refused(NoSensor, thing, twin.sign, 0, thing, 3)
            self.refused(BadReading, thing, twin.sign, 0, "knob", thing)
        self.assertEqual(told_of(twin), before)
        self.assertEqual([twin.undo(), twin.undo(), twin.undo()], [True, True, False])

    def test_no_beat_of_questions(self):
        twin = fed(TUB, FILL, [])
        parted = fed(TUB, FILL, [(0, "rod", 4)])
        for beat in (-1, 3, 10 ** 30):
            for one in (twin, parted):
                self.refused(NoBeat, beat, one.stands, beat)
                self.refused(NoBeat, beat, one.bounds, beat, ("tub",))
                self.refused(NoBeat, beat, one.failing, beat, YES)

    def test_no_run(self):
        for lot in ((), ("plug",), ["plug"]):
            twin = fed(TUB, FILL, [(1, "knob", "shut")], lot=lot)
            self.refused(NoRun, tuple(lot), twin.bounds, 0, ("tub",))
            self.refused(NoRun, tuple(lot), twin.failing, 2, YES)
            self.refused(NoRun, tuple(lot), twin.model)
            self.refused(NoRun, tuple(lot), twin.what_if, [])
            self.refused(NoRun, tuple(lot), twin.what_if, ["fill"])
            self.refused(NoDeed, "none", twin.what_if, ["fill", "none"])
            self.refused(NoRun, tuple(lot), twin.plan, YES)
            self.assertEqual(twin.stands(0), [])
            self.assertEqual(twin.lots(), [("tap",)])

    def test_too_many_of_questions(self):
        twin = fed(TUB, ["wait"], [], most=3)
        self.refused(TooMany, 3, twin.what_if, ["fill"])
        self.refused(NoDeed, "none", twin.what_if, ["fill", "none"])
        self.assertEqual(len(twin.what_if(["wait", "stop"])), 2)
        # By all parts more are open.
        self.refused(TooMany, 3, twin.lots)
        twin.sign(0, "rod", 2)
        self.assertEqual(twin.lots(), [()])
        self.assertEqual(twin.plan(("sum", ("tub",), 3, 4)), ["fill"])


class ReckonedTest(unittest.TestCase):
    def test_deeds_one_each(self):
        twin = Twin(TUB)
        for many in range(1, 6):
            self.assertEqual(twin.reckoned(), many)
            twin.deed("wait")

    def test_signs_their_own_beat_and_all_behind(self):
        twin = fed(TUB, ["fill", "wait", "stop"], [])
        many = twin.reckoned()
        self.assertEqual(many, 4)
        for beat, reading, more in ((3, 5, 1), (0, 1, 4), (1, 3, 3), (2, 5, 2)):
            twin.sign(beat, "rod", reading)
            many += more
            self.assertEqual(twin.reckoned(), many)

    def test_a_sign_that_it_has_already_none(self):
        twin = fed(TUB, FILL, [(1, "rod", 4)])
        self.assertEqual(twin.reckoned(), 5)
        twin.sign(1, "rod", 4)
        self.assertEqual(twin.reckoned(), 5)
        twin.sign(1, "view", 4)
        self.assertEqual(twin.reckoned(), 7)

    def test_where_none_is_open_any_more(self):
        twin = fed(TUB, FILL, [(0, "rod", 4)])
        self.assertEqual(twin.reckoned(), 6)
        twin.sign(1, "rod", 4)
        self.assertEqual(twin.reckoned(), 8)
        twin.deed("wait")
        self.assertEqual(twin.reckoned(), 9)
        twin.sign(0, "rod", 3)
        self.assertEqual(twin.reckoned(), 13)

    def test_undone_ones_too_and_undo_none(self):
        twin = fed(TUB, FILL, [(0, "rod", 2)])
        self.assertEqual(twin.reckoned(), 6)
        twin.undo()
        self.assertEqual(twin.reckoned(), 6)
        twin.undo()
        twin.undo()
        twin.undo()
        self.assertEqual(twin.reckoned(), 6)
        twin.deed("fill")
        twin.sign(0, "rod", 2)
        self.assertEqual(twin.reckoned(), 9)
        twin.undo()
        # Undone, so it hasn't it already.
        twin.sign(0, "rod", 2)
        self.assertEqual(twin.reckoned(), 11)

    def test_questions_none(self):
        twin = fed(TUB, FILL, [(1, "view", 3)])
        before = twin.reckoned()
        told_of(twin)
        twin.plan(YES)
        twin.bounds(1, ("tub",))
        twin.failing(1, YES)
        twin.like()
        self.assertEqual(twin.reckoned(), before)


class UndoTest(unittest.TestCase):
    def test_to_the_first_and_false_then(self):
        twin = Twin(TUB)
        told = [told_of(twin)]
        for act in (("fill",), (1, "view", 3), ("wait",), (0, "rod", 2), (0, "rod", 2), (2, "rod", 6), (1, "rod", 2), ("stop",)):
            if len(act) == 1:
                twin.deed(*act)
            else:
                twin.sign(*act)
            told.append(told_of(twin))
        many = twin.reckoned()
        for before in reversed(told[:-1]):
            self.assertIs(twin.undo(), True)
            now = told_of(twin)
            # All is as it was, but what was reckoned.
            self.assertEqual(now[3], many)
            self.assertEqual(now[:3] + now[4:], before[:3] + before[4:])
        self.assertIs(twin.undo(), False)
        self.assertEqual(told_of(twin)[:3], [([], []), TUB, 0])

    def test_a_sign_that_it_had_already(self):
        twin = fed(TUB, FILL, [(1, "rod", 4), (1, "rod", 4)])
        self.assertIs(twin.undo(), True)
        self.assertEqual(twin.story(), (FILL, [(1, "rod", 4)]))
        self.assertIs(twin.undo(), True)
        self.assertEqual(twin.story(), (FILL, []))
        self.assertEqual(levels(twin.stands(1)), [2, 3, 4, 5])

    def test_refused_ones_dont_stand(self):
        twin = fed(TUB, ["fill"], [])
        for ask in (lambda: twin.deed("none"), lambda: twin.sign(9, "rod", 1), lambda: twin.sign(0, "rod", 41)):
            self.assertIsNot(asked(ask)[0], "told")
        self.assertIs(twin.undo(), True)
        self.assertEqual(twin.story(), ([], []))
        self.assertIs(twin.undo(), False)
        self.assertIs(twin.undo(), False)

    def test_gone_on_with_another_way(self):
        twin = fed(TUB, ["fill", "fill"], [(1, "rod", 9)])
        twin.undo()
        twin.undo()
        twin.deed("stop")
        self.assertTrue(twin == fed(TUB, FILL, []))
        self.assertEqual(twin.stands(2), fed(TUB, FILL, []).stands(2))


class QuestionsTest(unittest.TestCase):
    def check(self, twin, rng, lot, most):
        """Each question, beside the function that answers it of the twin's story, lot and most."""
        works, story = twin.works(), twin.story()
        by = {"lot": lot, "most": most}
        rows = allowed(works, story, **by)
        self.assertEqual([twin.stands(beat) for beat in range(twin.now() + 1)], rows)
        claim = any_claim(rng, works)
        some = some_of(rng, [box[0] for box in works[1]], 1)
        for beat in (0, twin.now(), twin.now() + 1, -1):
            self.assertEqual(asked(twin.bounds, beat, some), asked(bounds, works, story, beat, some, **by))
            self.assertEqual(asked(twin.failing, beat, claim), asked(failing, works, story, beat, claim, **by))
        self.assertEqual(asked(twin.lots), asked(lots, works, story, most=most))
        self.assertEqual(asked(twin.model), asked(model, works, story, **by))
        deeds = [any_deed(rng, works) for _ in range(rng.randint(0, 2))]
        self.assertEqual(asked(twin.what_if, deeds), asked(what_if, works, story, deeds, **by))
        keep = rng.choice((None, any_claim(rng, works)))
        self.assertEqual(asked(twin.plan, claim, keep=keep, beats=1), asked(plan, works, story, claim, keep=keep, beats=1, **by))
        self.assertEqual(asked(twin.plan, claim), asked(plan, works, story, claim, **by))

    def test_beside_the_functions(self):
        rng = random.Random(262)
        for _ in range(250):
            works = any_works(rng, 2, 2, 4)
            lot = any_lot(rng, works)
            most = rng.choice((20, 60, 400))
            try:
                twin = Twin(works, lot=lot, most=most)
            except TooMany:
                continue
            deeds, signs, many = [], [], 1
            for _ in range(rng.randint(2, 9)):
                if rng.random() < 0.4 or not works[5]:
                    deed = any_deed(rng, works)
                    if asked(opened, works, (deeds + [deed], signs), lot=lot, most=most)[0] == "TooMany":
                        self.assertEqual(asked(twin.deed, deed), ("TooMany", most))
                        continue
                    deeds.append(deed)
                    many += 1
                    self.assertEqual(twin.deed(deed), len(deeds))
                else:
                    beat, sensor = rng.randint(0, len(deeds)), rng.choice(works[5])[0]
                    stands = twin.stands(beat)
                    stand = rng.choice(stands) if stands and rng.random() < 0.9 else any_stand(rng, works)
                    sign = (beat, sensor, rng.choice(readings(works, stand, sensor)))
                    many += 0 if sign in signs else len(deeds) - beat + 1
                    signs.append(sign)
                    self.assertIs(twin.sign(*sign), allowed(works, (deeds, signs), lot=lot, most=most)[0] != [])
                self.assertEqual(twin.story(), told_story(works, (deeds, signs)))
                self.assertEqual(twin.reckoned(), many)
            self.check(twin, rng, lot, most)
            for _ in range(len(deeds) + len(signs)):
                self.assertIs(twin.undo(), True)
                self.assertEqual(twin.reckoned(), many)
            self.assertIs(twin.undo(), False)
            self.assertTrue(twin == Twin(works, lot=lot, most=most))

    def test_told_lists_are_the_askers_own(self):
        twin = fed(TUB, FILL, [(1, "view", 3)])
        before = copy.deepcopy(told_of(twin))
        for _ in range(2):
            deeds, signs = twin.story()
            deeds.append("more")
            signs.clear()
            for beat in range(3):
                twin.stands(beat).clear()
            twin.lots().clear()
            twin.model().clear()
            rows = twin.what_if(["wait", "wait"])
            rows[0].clear()
            rows.clear()
            twin.plan(YES).append("more")
            self.assertEqual(told_of(twin), before)

    def test_lists_for_tuples(self):
        twin = fed(MILL, ["draw"], [(1, "eye", 4)], lot=("gate",))
        claim = ("any", (("mode", "gate", ("ajar",)), ("sum", ("pond",), 0, 2)))
        self.assertEqual(twin.bounds(1, ["race", "pond"]), twin.bounds(1, ("pond", "race")))
        self.assertEqual(twin.failing(1, swapped(claim)), twin.failing(1, claim))
        self.assertEqual(twin.what_if(("wait", "close")), twin.what_if(["wait", "close"]))
        self.assertEqual(twin.plan(swapped(claim), keep=swapped(YES), beats=3), twin.plan(claim, keep=YES, beats=3))


class KeptTest(unittest.TestCase):
    def test_what_is_handed_in_is_not_changed_nor_read_later(self):
        works, lot = swapped(TUB), ["plug"]
        ahead = copy.deepcopy((works, lot))
        twin = Twin(works, lot=lot)
        twin.deed("fill")
        twin.sign(1, "view", 3)
        self.assertEqual((works, lot), ahead)
        before = told_of(twin)
        works[1][0][1] = 2
        works[2][0][1].clear()
        works[3].clear()
        works[4].clear()
        del works[5:]
        lot.append("tap")
        self.assertEqual(told_of(twin), before)
        self.assertEqual(twin.works(), TUB)
        self.assertEqual(repr(twin.works()), repr(TUB))
        self.assertTrue(twin == fed(TUB, ["fill"], [(1, "view", 3)], lot=("plug",)))

    def test_what_if_deeds_and_some(self):
        twin = fed(TUB, FILL, [])
        deeds, some = ["wait", "fill"], ["tub"]
        twin.what_if(deeds)
        twin.bounds(0, some)
        self.assertEqual((deeds, some), (["wait", "fill"], ["tub"]))


class LikeTest(unittest.TestCase):
    def test_the_same(self):
        twin = fed(TUB, FILL, [(1, "rod", 4), (1, "rod", 4), (0, "view", 2)], lot=("plug",), most=50)
        twin.undo()
        like = twin.like()
        self.assertIs(type(like), Twin)
        self.assertTrue(like == twin)
        self.assertEqual(told_of(like), told_of(twin))
        self.assertEqual([like.undo() for _ in range(5)], [True, True, True, True, False])
        self.assertEqual(twin.story(), (FILL, [(1, "rod", 4)]))

    def test_both_gone_on_with(self):
        twin = fed(TUB, FILL, [(1, "view", 4)])
        like = twin.like()
        twin.deed("fill")
        twin.sign(0, "rod", 2)
        self.assertEqual(like.story(), (FILL, [(1, "view", 4)]))
        self.assertEqual((like.reckoned(), twin.reckoned()), (5, 10))
        like.undo()
        like.undo()
        self.assertEqual((like.now(), twin.now()), (1, 3))
        self.assertEqual(twin.story(), (FILL + ["fill"], [(0, "rod", 2), (1, "view", 4)]))
        like.sign(0, "rod", 3)
        again = like.like()
        self.assertEqual([again.undo(), again.undo(), again.undo()], [True, True, False])
        self.assertEqual([twin.undo() for _ in range(6)], [True] * 5 + [False])
        self.assertEqual(like.story(), (["fill"], [(0, "rod", 3)]))

    def test_two_to_which_the_same_is_done_tell_the_same(self):
        for _ in range(2):
            one, other = Twin(MILL, lot=("gate",)), Twin(MILL, lot=("gate",))
            for twin in (one, other):
                twin.deed("draw")
                twin.sign(1, "eye", 4)
                twin.undo()
                twin.sign(1, "hand", "ajar")
                twin.deed("wait")
            self.assertEqual(told_of(one), told_of(other))
            self.assertTrue(one == other)


class EqualTest(unittest.TestCase):
    def test_fed_in_other_orders(self):
        signs = [(0, "view", 2), (1, "rod", 4), (2, "knob", "shut")]
        one, other = fed(TUB, FILL, signs), fed(TUB, FILL, signs[::-1] + signs)
        self.assertTrue(one == other)
        self.assertFalse(one != other)
        other.undo()
        self.assertTrue(one == other)
        other.deed("wait")
        self.assertFalse(one == other)
        self.assertTrue(one != other)
        other.undo()
        self.assertTrue(one == other)

    def test_of_others(self):
        one = fed(TUB, FILL, [(0, "rod", 2)])
        self.assertTrue(one == fed(swapped(TUB), FILL, [(0, "rod", 2)], lot=[], most=200))
        for other in (
            fed(TUB, FILL, []), fed(TUB, ["fill"], [(0, "rod", 2)]), fed(TUB, FILL, [(0, "rod", 2), (0, "view", 2)]),
            fed(TUB, ["fill", "wait"], [(0, "rod", 2)]), fed(TUB, FILL, [(0, "rod", 2)], lot=("plug",)),
            fed(TUB, FILL, [(0, "rod", 2)], most=199), fed(replaced(TUB, (0,), "vat"), FILL, [(0, "rod", 2)]), Twin(LEAST),
        ):
            self.assertFalse(one == other)
            self.assertFalse(other == one)
            self.assertTrue(one != other)

    def test_of_another_class(self):
        twin = Twin(TUB)
        for other in (None, 0, "", TUB, ([], []), [], twin.story(), object()):
            self.assertIs(twin == other, False)
            self.assertIs(other == twin, False)
            self.assertIs(twin != other, True)
        self.assertIs(twin == twin, True)


if __name__ == "__main__":
    unittest.main()
