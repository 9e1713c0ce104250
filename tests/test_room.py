import copy
import inspect
import random
import unittest

from tests.samples import FILL, LEAST, MILL, TUB, any_deed, any_things, any_works, boxes_of, replaced, swapped
from tests.test_twin import told_of
from worktwin.errors import BadReading, Known, NoBeat, NoDeed, NoSensor, NoTwin, TooMany, Unlike
from worktwin.room import Room
from worktwin.twin import Twin

METHODS = {
    "begin": "(self, name, works)",
    "end": "(self, name)",
    "deed": "(self, name, deed)",
    "sign": "(self, name, beat, sensor, reading)",
    "join": "(self, name, other)",
    "undo": "(self)",
    "names": "(self)",
    "twin": "(self, name)",
    "reckoned": "(self)",
    "like": "(self)",
}

REFUSALS = (BadReading, Known, NoBeat, NoDeed, NoSensor, NoTwin, TooMany, Unlike)


def told_of_room(room):
    """All that a room tells."""
    return [room.names(), len(room), room.reckoned(), [told_of(room.twin(name)) for name in room.names()]]


def undone(room):
    """What a like of the room tells, undone step by step."""
    like = room.like()
    found = [told_of_room(like)]
    while like.undo():
        found.append(told_of_room(like))
    return found


def filled(*names, most=200):
    """A room with a tub under each of these names, filled and stopped."""
    room = Room(most=most)
    for name in names:
        room.begin(name, TUB)
        for deed in FILL:
            room.deed(name, deed)
    return room


class InterfaceTest(unittest.TestCase):
    def test_methods_stand_in_the_class(self):
        for name, arguments in METHODS.items():
            self.assertIn(name, vars(Room))
            self.assertEqual(str(inspect.signature(vars(Room)[name])), arguments)
        self.assertEqual(str(inspect.signature(Room)), "(*, most=200)")
        self.assertIn("__eq__", vars(Room))
        self.assertIn("__len__", vars(Room))
        self.assertEqual(Room.__module__, "worktwin.room")

    def test_names(self):
        room = Room(most=100)
        self.assertIsNone(room.begin(name="a", works=TUB))
        self.assertEqual(room.deed(name="a", deed="fill"), 1)
        self.assertIs(room.sign(name="a", beat=1, sensor="rod", reading=3), True)
        self.assertEqual(room.join(name="a", other="a"), 0)
        self.assertEqual(room.twin(name="a").now(), 1)
        self.assertIsNone(room.end(name="a"))
        with self.assertRaises(TypeError):
            Room(100)


class DoneTest(unittest.TestCase):
    def test_a_new_one(self):
        room = Room()
        self.assertEqual((room.names(), len(room), room.reckoned(), room.undo()), ([], 0, 0, False))

    def test_begin(self):
        room = Room()
        self.assertIsNone(room.begin("b", TUB))
        self.assertIsNone(room.begin("a", MILL))
        self.assertEqual((room.names(), len(room), room.reckoned()), (["a", "b"], 2, 2))
        self.assertTrue(room.twin("b") == Twin(TUB))
        self.assertTrue(room.twin("a") == Twin(MILL))

    def test_begin_with_the_rooms_most(self):
        room = Room(most=3)
        room.begin("a", TUB)
        self.assertTrue(room.twin("a") == Twin(TUB, most=3))
        self.assertFalse(room.twin("a") == Twin(TUB))
        with self.assertRaises(TooMany) as caught:
            room.deed("a", "fill")
        self.assertEqual(caught.exception.what, 3)

    def test_end(self):
        room = filled("a", "b")
        self.assertIsNone(room.end("a"))
        self.assertEqual((room.names(), len(room), room.reckoned()), (["b"], 1, 6))
        with self.assertRaises(NoTwin):
            room.twin("a")

    def test_deed_and_sign(self):
        room = filled("a", "b")
        self.assertEqual(room.deed("a", "wait"), 3)
        self.assertIs(room.sign("a", 1, "rod", 4), True)
        self.assertIs(room.sign("a", 1, "rod", 4), True)
        self.assertIs(room.sign("a", 1, "rod", 5), False)
        self.assertEqual(room.twin("a").story(), (FILL + ["wait"], [(1, "rod", 4), (1, "rod", 5)]))
        self.assertEqual(room.twin("b").story(), (FILL, []))
        self.assertEqual(room.reckoned(), 3 + 3 + 1 + 3 + 0 + 3)
        self.assertEqual(room.twin("a").reckoned(), 3 + 1 + 3 + 0 + 3)

    def test_twins_told_are_the_askers_own(self):
        room = filled("a")
        room.sign("a", 1, "view", 3)
        before = told_of_room(room)
        twin = room.twin("a")
        twin.deed("wait")
        twin.sign(0, "rod", 1)
        other = room.twin("a")
        for _ in range(5):
            other.undo()
        self.assertEqual(told_of_room(room), before)
        self.assertEqual(room.twin("a").now(), 2)
        room.deed("a", "fill")
        self.assertEqual((twin.now(), other.now()), (3, 0))
        self.assertEqual(twin.story()[0], FILL + ["wait"])

    def test_told_lists_are_the_askers_own(self):
        room = filled("a", "b")
        room.names().clear()
        self.assertEqual(room.names(), ["a", "b"])

    def test_works_are_not_kept_to_be_read_later(self):
        works = swapped(TUB)
        ahead = copy.deepcopy(works)
        room = Room()
        room.begin("a", works)
        room.deed("a", "fill")
        self.assertEqual(works, ahead)
        works[4].clear()
        works[1][0][1] = 1
        self.assertEqual(room.deed("a", "stop"), 2)
        self.assertEqual(repr(room.twin("a").works()), repr(TUB))
        self.assertTrue(room.twin("a") == filled("a").twin("a"))


class JoinTest(unittest.TestCase):
    def test_new_signs(self):
        room = filled("a", "b")
        for sign in ((2, "view", 4), (0, "rod", 2), (1, "rod", 4)):
            room.sign("b", *sign)
        room.sign("a", 0, "rod", 2)
        before = room.reckoned()
        self.assertEqual(room.join("a", "b"), 2)
        self.assertEqual(room.twin("a").story(), room.twin("b").story())
        # The first of the two has two beats reckoned, then the last one.
        self.assertEqual(room.reckoned(), before + 2 + 1)
        self.assertEqual(room.join("a", "b"), 0)
        self.assertEqual(room.join("b", "a"), 0)
        self.assertEqual(room.reckoned(), before + 3)

    def test_one_by_one_rising(self):
        room = filled("a", "b")
        for sign in ((2, "view", 4), (1, "rod", 4), (0, "rod", 2)):
            room.sign("b", *sign)
        room.join("a", "b")
        like = room.twin("a")
        wanted = [(0, "rod", 2), (1, "rod", 4), (2, "view", 4)]
        for many in (2, 1, 0):
            self.assertIs(like.undo(), True)
            self.assertEqual(like.story(), (FILL, wanted[:many]))
        self.assertIs(like.undo(), True)
        self.assertEqual(like.now(), 1)
        # The room takes them back together.
        self.assertIs(room.undo(), True)
        self.assertEqual(room.twin("a").story(), (FILL, []))

    def test_the_other_stays_as_it_is(self):
        room = filled("a", "b")
        room.sign("b", 1, "rod", 4)
        room.sign("a", 0, "rod", 2)
        before = told_of(room.twin("b"))
        room.join("a", "b")
        self.assertEqual(told_of(room.twin("b")), before)

    def test_of_none_and_of_itself(self):
        room = filled("a", "b")
        room.sign("a", 1, "rod", 4)
        before = told_of_room(room)
        for name, other in (("a", "b"), ("a", "a"), ("b", "b")):
            self.assertEqual(room.join(name, other), 0)
            self.assertEqual(told_of_room(room), before)
        # Each of them stands, and is undone by itself.
        for _ in range(3):
            self.assertIs(room.undo(), True)
            self.assertEqual(told_of_room(room), before)
        room.undo()
        self.assertEqual(room.twin("a").story(), (FILL, []))

    def test_stories_of_unlike_length(self):
        room = filled("a", "b")
        room.deed("b", "wait")
        room.sign("b", 1, "rod", 4)
        self.assertEqual(room.join("a", "b"), 1)
        self.assertEqual(room.twin("a").story(), (FILL, [(1, "rod", 4)]))
        room.begin("c", TUB)
        room.sign("c", 0, "view", 3)
        self.assertEqual(room.join("b", "c"), 1)
        self.assertEqual(room.join("c", "c"), 0)

    def test_signs_that_part(self):
        room = filled("a", "b")
        room.sign("a", 1, "rod", 4)
        room.sign("b", 1, "rod", 5)
        self.assertEqual(room.join("a", "b"), 1)
        self.assertEqual(room.twin("a").stands(0), [])
        room.undo()
        self.assertNotEqual(room.twin("a").stands(0), [])

    def refused(self, error, what, room, name, other):
        before, steps = told_of_room(room), undone(room)
        with self.assertRaises(error) as caught:
            room.join(name, other)
        self.assertEqual(caught.exception.what, what)
        self.assertEqual(told_of_room(room), before)
        self.assertEqual(undone(room), steps)

    def test_unlike_works(self):
        room = filled("a", "b")
        room.begin("c", replaced(TUB, (0,), "vat"))
        room.begin("d", MILL)
        for other in ("c", "d"):
            self.refused(Unlike, other, room, "a", other)
            self.refused(Unlike, "a", room, other, "a")
        # The same works, handed in as lists.
        room.begin("e", swapped(TUB))
        self.assertEqual(room.join("e", "a"), 0)

    def test_unlike_deeds(self):
        room = filled("a")
        room.begin("b", TUB)
        for deed in ("fill", "fill"):
            room.deed("b", deed)
        self.refused(Unlike, "b", room, "a", "b")
        self.refused(Unlike, "a", room, "b", "a")
        room.begin("c", TUB)
        room.deed("c", "stop")
        self.refused(Unlike, "c", room, "a", "c")
        # A beat that one alone has says nothing.
        room.begin("d", TUB)
        self.assertEqual(room.join("d", "a"), 0)
        self.assertEqual(room.join("b", "d"), 0)

    def test_a_sign_beyond_its_beats(self):
        room = filled("a", "b")
        for deed in ("wait", "wait"):
            room.deed("b", deed)
        for sign in ((4, "rod", 5), (0, "view", 2), (3, "rod", 5), (1, "view", 4)):
            room.sign("b", *sign)
        # None of them, also not those of beats that it has.
        self.refused(NoBeat, 3, room, "a", "b")
        room.deed("a", "wait")
        self.refused(NoBeat, 4, room, "a", "b")
        room.deed("a", "wait")
        self.assertEqual(room.join("a", "b"), 4)

    def test_refusals_in_their_order(self):
        room = filled("a")
        room.begin("b", TUB)
        room.deed("b", "stop")
        room.deed("b", "stop")
        room.deed("b", "stop")
        room.sign("b", 3, "rod", 5)
        self.refused(NoTwin, "x", room, "x", "y")
        self.refused(NoTwin, "y", room, "a", "y")
        self.refused(NoTwin, "x", room, "x", "a")
        self.refused(NoTwin, "x", room, "x", "x")
        self.refused(Unlike, "b", room, "a", "b")


class UndoTest(unittest.TestCase):
    def test_each_sort(self):
        room = Room()
        told = [told_of_room(room)]
        acts = (
            ("begin", "b", TUB), ("deed", "b", "fill"), ("begin", "a", TUB), ("deed", "a", "fill"), ("sign", "b", 1, "rod", 4),
            ("sign", "b", 1, "rod", 4), ("sign", "b", 0, "view", 2), ("join", "a", "b"), ("join", "a", "a"), ("join", "b", "a"),
            ("end", "b"), ("deed", "a", "stop"), ("begin", "b", MILL), ("deed", "b", "draw"), ("end", "a"), ("end", "b"),
        )
        for word, *things in acts:
            getattr(room, word)(*things)
            told.append(told_of_room(room))
        many = room.reckoned()
        steps = undone(room)
        for before, step in zip(reversed(told[:-1]), steps[1:]):
            self.assertIs(room.undo(), True)
            now = told_of_room(room)
            self.assertEqual(now, step)
            self.assertEqual(now[2], many)
            self.assertEqual(now[:2], before[:2])
            for twin, other in zip(now[3], before[3]):
                self.assertEqual(twin[:3] + twin[4:], other[:3] + other[4:])
        self.assertIs(room.undo(), False)
        self.assertEqual((room.names(), room.reckoned()), ([], many))

    def test_what_was_reckoned_stays_counted_by_the_twins_too(self):
        room = filled("a")
        room.sign("a", 0, "rod", 2)
        self.assertEqual((room.reckoned(), room.twin("a").reckoned()), (6, 6))
        room.undo()
        self.assertEqual((room.reckoned(), room.twin("a").reckoned()), (6, 6))
        room.undo()
        room.deed("a", "wait")
        self.assertEqual((room.reckoned(), room.twin("a").reckoned()), (7, 7))

    def test_a_twin_begun_anew_begins_at_1_again(self):
        room = filled("a")
        for _ in range(3):
            room.undo()
        self.assertEqual((room.names(), room.reckoned()), ([], 3))
        room.begin("a", MILL)
        self.assertEqual((room.twin("a").reckoned(), room.reckoned()), (1, 4))
        room.end("a")
        room.begin("a", TUB)
        self.assertEqual((room.twin("a").reckoned(), room.reckoned()), (1, 5))

    def test_a_twin_ended_and_brought_back_with_all_that_it_could_undo(self):
        room = filled("a")
        room.sign("a", 1, "rod", 4)
        before = told_of(room.twin("a"))
        room.end("a")
        room.undo()
        self.assertEqual(told_of(room.twin("a")), before)
        twin = room.twin("a")
        self.assertEqual([twin.undo() for _ in range(4)], [True, True, True, False])
        self.assertEqual([room.undo() for _ in range(5)], [True, True, True, True, False])
        self.assertEqual(room.reckoned(), 5)

    def test_a_name_begun_anew_and_both_undone(self):
        room = filled("a")
        room.end("a")
        room.begin("a", MILL)
        room.deed("a", "draw")
        for _ in range(2):
            room.undo()
        self.assertEqual(room.names(), [])
        room.undo()
        self.assertEqual(room.twin("a").story(), (FILL, []))
        self.assertEqual(room.twin("a").works(), TUB)

    def test_refused_ones_dont_stand(self):
        room = filled("a")
        for act in (
            ("begin", "a", TUB), ("end", "x"), ("deed", "a", "none"), ("deed", "x", "fill"), ("sign", "a", 9, "rod", 1), ("join", "a", "x"),
        ):
            with self.assertRaises(REFUSALS):
                getattr(room, act[0])(*act[1:])
        room.undo()
        self.assertEqual(room.twin("a").story(), (["fill"], []))


class RefusedTest(unittest.TestCase):
    def refused(self, error, what, room, word, *things):
        before, steps = told_of_room(room), undone(room)
        with self.assertRaises(error) as caught:
            getattr(room, word)(*things)
        self.assertEqual(caught.exception.what, what)
        self.assertIs(type(caught.exception.what), type(what))
        self.assertEqual(told_of_room(room), before)
        self.assertEqual(undone(room), steps)

    def test_known_then_too_many(self):
        room = Room(most=3)
        room.begin("a", TUB)
        self.refused(Known, "a", room, "begin", "a", TUB)
        self.refused(Known, "a", room, "begin", "a", boxes_of(9, 9, 9))
        self.refused(TooMany, 3, room, "begin", "b", boxes_of(9, 9, 9))
        self.refused(TooMany, 200, Room(), "begin", "b", boxes_of(9, 9, 2))
        room = Room(most=300)
        room.begin("b", boxes_of(9, 9, 2))

    def test_no_twin_first_of_all(self):
        room = filled("a")
        for name in ("", "b", "A", "a ", "x" * 3000):
            self.refused(NoTwin, name, room, "end", name)
            self.refused(NoTwin, name, room, "deed", name, "none")
            self.refused(NoTwin, name, room, "sign", name, None, None, None)
            self.refused(NoTwin, name, room, "join", name, "a")
            self.refused(NoTwin, name, room, "join", "a", name)
            self.refused(NoTwin, name, room, "twin", name)
        room.end("a")
        self.refused(NoTwin, "a", room, "twin", "a")
        self.refused(NoTwin, "a", room, "end", "a")

    def test_as_the_twins(self):
        room = filled("a")
        self.refused(NoDeed, "none", room, "deed", "a", "none")
        self.refused(NoBeat, 3, room, "sign", "a", 3, "none", None)
        self.refused(NoBeat, True, room, "sign", "a", True, "rod", 3)
        self.refused(NoSensor, "none", room, "sign", "a", 2, "none", None)
        self.refused(BadReading, 41, room, "sign", "a", 2, "rod", 41)
        for thing in any_things(271, 10):
            self.refused(BadReading, thing, room, "sign", "a", 0, "knob", thing)


class LikeTest(unittest.TestCase):
    def test_the_same(self):
        room = filled("a", "b")
        room.sign("b", 1, "rod", 4)
        room.join("a", "b")
        room.end("b")
        room.begin("b", MILL)
        room.undo()
        like = room.like()
        self.assertIs(type(like), Room)
        self.assertTrue(like == room)
        self.assertEqual(told_of_room(like), told_of_room(room))
        self.assertEqual(undone(like), undone(room))

    def test_both_gone_on_with(self):
        room = filled("a")
        room.end("a")
        like = room.like()
        room.undo()
        room.deed("a", "wait")
        self.assertEqual(like.names(), [])
        like.undo()
        self.assertEqual(like.twin("a").story(), (FILL, []))
        self.assertEqual((room.reckoned(), like.reckoned()), (4, 3))
        like.sign("a", 0, "rod", 1)
        self.assertEqual(room.twin("a").story(), (FILL + ["wait"], []))
        like.begin("b", MILL)
        self.assertEqual(room.names(), ["a"])
        room.undo()
        room.undo()
        self.assertEqual(like.twin("a").now(), 2)
        self.assertEqual([like.undo() for _ in range(6)], [True] * 5 + [False])
        self.assertEqual(room.twin("a").now(), 1)

    def test_its_most_goes_with_it(self):
        room = Room(most=3).like()
        room.begin("a", TUB)
        with self.assertRaises(TooMany) as caught:
            room.begin("b", boxes_of(3, 0, 0))
        self.assertEqual(caught.exception.what, 3)
        Room(most=300).like().begin("b", boxes_of(9, 9, 2))


class EqualTest(unittest.TestCase):
    def test_rooms(self):
        one, other = filled("a", "b"), filled("b", "a")
        self.assertTrue(one == other)
        self.assertFalse(one != other)
        other.sign("a", 0, "rod", 2)
        self.assertFalse(one == other)
        one.sign("a", 0, "rod", 2)
        one.sign("a", 0, "rod", 2)
        self.assertTrue(one == other)
        one.end("b")
        self.assertFalse(one == other)
        one.undo()
        self.assertTrue(one == other)
        self.assertFalse(filled("a") == filled("b"))
        self.assertTrue(Room() == Room())

    def test_rooms_of_another_most(self):
        # Their own most says nothing, but that of their twins does.
        self.assertTrue(Room(most=3) == Room())
        one, other = filled("a"), filled("a", most=100)
        self.assertFalse(one == other)
        one.end("a")
        self.assertFalse(one == other)
        other.end("a")
        self.assertTrue(one == other)
        self.assertTrue(other == one)

    def test_of_another_class(self):
        room = filled("a")
        for other in (None, 0, "", {}, [], room.twin("a"), object()):
            self.assertIs(room == other, False)
            self.assertIs(other == room, False)
            self.assertIs(room != other, True)

    def test_len(self):
        room = Room()
        for many, name in enumerate("abcde"):
            self.assertEqual(len(room), many)
            room.begin(name, LEAST)
        self.assertEqual(len(room), 5)


class AnyTest(unittest.TestCase):
    def test_any_acts(self):
        rng = random.Random(272)
        for _ in range(40):
            works = any_works(rng, 2, 2, 3)
            room = Room(most=400)
            # What stands ahead of each act, each twin's like and how many beats it and all have reckoned.
            states, many = [], 0
            for _ in range(rng.randint(5, 25)):
                before = {name: room.twin(name) for name in room.names()}
                name, other = rng.choice("abc"), rng.choice("abc")
                word = rng.choice(("begin", "begin", "end", "deed", "deed", "sign", "sign", "sign", "join", "undo"))
                things = {"begin": (works,), "deed": (any_deed(rng, works),), "join": (other,)}.get(word, ())
                if word == "sign" and works[5] and name in before:
                    sensor = rng.choice(works[5])
                    reading = rng.randint(0, 8) if sensor[1] == "sum" else [part[1][0] for part in works[2] if part[0] == sensor[2]][0]
                    things = (rng.randint(0, before[name].now()), sensor[0], reading)
                elif word == "sign":
                    things = (0, "none", 0)
                try:
                    getattr(room, word)(*(() if word == "undo" else (name, *things)))
                except REFUSALS:
                    self.assertTrue(all(room.twin(one) == before[one] for one in before))
                    self.assertEqual(room.names(), sorted(before))
                    self.assertEqual(room.reckoned(), many)
                    continue
                if word == "undo":
                    wanted = states.pop() if states else before
                    self.assertEqual(room.names(), sorted(wanted))
                    self.assertTrue(all(room.twin(one) == wanted[one] for one in wanted))
                    self.assertEqual(room.reckoned(), many)
                else:
                    states.append(before)
                    ahead = before[name].reckoned() if name in before else 0
                    many += 0 if word == "end" else room.twin(name).reckoned() - ahead
                    self.assertEqual(room.reckoned(), many)


if __name__ == "__main__":
    unittest.main()
