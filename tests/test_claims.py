import copy
import random
import unittest

from tests import plain
from tests.samples import GREAT, LEAST, MILL, SHARED, WORDY
from tests.samples import altered, any_claim, any_stand, any_things, any_works, replaced, retold, swapped
from worktwin.claims import holds, is_claim

SUM = ("sum", ("pond", "race"), 2, 7)
MODE = ("mode", "gate", ("ajar", "wide"))
MANY = ("any", (SUM, ("not", MODE), ("all", (SUM, MODE, ("not", ("any", ()))))))
STAND = (("wide", "down"), (4, 2))


class IsClaimTest(unittest.TestCase):
    def right(self, *things):
        for thing in things:
            with self.subTest(thing):
                self.assertIs(is_claim(MILL, thing), True)

    def wrong(self, *things):
        for thing in things:
            with self.subTest(thing):
                self.assertIs(is_claim(MILL, thing), False)
                self.assertIs(is_claim(MILL, ("not", thing)), False)
                self.assertIs(is_claim(MILL, ("all", (SUM, thing))), False)
                self.assertIs(is_claim(MILL, ("any", (thing, SUM))), False)

    def test_claims(self):
        self.right(SUM, MODE, MANY, ("not", SUM), ("all", ()), ("any", ()), ("all", (SUM,)), ("any", (MODE, MODE, SUM)))
        self.assertIs(is_claim(works=MILL, thing=SUM), True)
        self.assertIs(is_claim(LEAST, SUM), False)
        self.assertIs(is_claim(LEAST, ("sum", ("b",), 0, 0)), True)

    def test_sums_at_each_bound_and_one_beyond(self):
        for at in (2, 3):
            self.right(*[replaced(SUM, (at,), number) for number in (0, 1, 39, 40)])
            self.wrong(*[replaced(SUM, (at,), number) for number in (-1, 41, 10 ** 30, -(10 ** 30))])
            self.wrong(*[replaced(SUM, (at,), thing) for thing in (True, False, None, "2", "", (), (2,), [2])])

    def test_low_above_high(self):
        self.right(("sum", ("pond",), 7, 2), ("sum", ("pond",), 40, 0), ("sum", ("race",), 1, 0))

    def test_boxes_of_a_sum(self):
        self.right(replaced(SUM, (1,), ("pond",)), replaced(SUM, (1,), ("race",)))
        wrong = [
            (), ("race", "pond"), ("pond", "pond"), ("pond", "race", "race"), ("none",), ("pond", "none"), ("gate",), ("",),
            "pond", ["pond"], ["pond", "race"], None, 0, True, (None,), (("pond",),), ("pond", 1), (1, 2), ([],), ("Pond",),
        ]
        self.wrong(*[replaced(SUM, (1,), some) for some in wrong])

    def test_three_boxes(self):
        names = [box[0] for box in GREAT[1]]
        self.assertIs(is_claim(GREAT, ("sum", tuple(names), 0, 27)), True)
        self.assertIs(is_claim(GREAT, ("sum", (names[0], names[2]), 0, 27)), True)
        self.assertIs(is_claim(GREAT, ("sum", (names[2], names[0]), 0, 27)), False)

    def test_parts_of_a_mode(self):
        self.right(("mode", "weir", ("down",)))
        for part in ("none", "pond", "", "weir", "Gate", None, 0, True, (), ("gate",), ["gate"]):
            self.wrong(replaced(MODE, (1,), part))

    def test_modes(self):
        self.right(*[replaced(MODE, (2,), modes) for modes in (("ajar",), ("shut",), ("ajar", "shut", "wide"), ("shut", "wide"))])
        wrong = [
            (), ("wide", "ajar"), ("ajar", "ajar"), ("shut", "ajar"), ("up",), ("ajar", "up"), ("none",), ("",), "ajar",
            ["ajar"], None, 1, True, (None,), (("ajar",),), ("ajar", 1), ([],), ("Ajar",), ("ajar", "none", "wide"),
        ]
        self.wrong(*[replaced(MODE, (2,), modes) for modes in wrong])

    def test_modes_that_other_parts_share(self):
        self.assertIs(is_claim(SHARED, ("mode", "box", ("box", "part"))), True)
        self.assertIs(is_claim(SHARED, ("mode", "box", ("box", "sum"))), False)
        self.assertIs(is_claim(SHARED, ("mode", "part", ("box", "part", "sum"))), True)
        self.assertIs(is_claim(WORDY, ("mode", "mode", ("all", "any", "mode"))), True)
        self.assertIs(is_claim(WORDY, ("sum", ("all", "not", "sum"), 0, 0)), True)

    def test_nots(self):
        self.right(("not", ("not", SUM)), ("not", ("all", ())))
        self.wrong(("not",), ("not", SUM, SUM), ("not", (SUM,)), ("not", (SUM, MODE)), ("not", ()), ("not", None), ["not", SUM])
        self.wrong(("not", list(SUM)), ("not", [SUM]), ("not", "sum"), ("Not", SUM), ("", SUM), (None, SUM), (True, SUM))

    def test_alls_and_anys(self):
        for word in ("all", "any"):
            self.right((word, ()), (word, (SUM,)), (word, (SUM, SUM)), (word, ((word, ()),)), (word, (MODE,) * 400))
            self.wrong((word,), (word, []), (word, [SUM]), (word, SUM), (word, SUM, MODE), (word, None), (word, ""), [word, ()])
            self.wrong((word, (list(SUM),)), (word, (SUM, None)), (word, ((),)), (word, ((SUM,),)), (word, (SUM,), (MODE,)))
        self.wrong(("none", ()), ("some", (SUM,)), ((), ()), ("sum", ()), ("mode", ()), ([], ()))

    def test_more_and_fewer_things(self):
        self.wrong((), SUM[:3], SUM + (1,), MODE[:2], MODE + ((),), (SUM,), SUM[1:], MODE[1:], ("sum",), ("mode",))
        self.wrong(("mode", *SUM[1:]), ("sum", *MODE[1:]), ("all", *SUM[1:]), ("not", *MODE[1:]))

    def test_twelve_deep(self):
        found, wrong = MODE, ("mode", "gate", ("down",))
        for at in range(10):
            found = (("not", found), ("all", (SUM, found)), ("any", (found, SUM)))[at % 3]
            wrong = (("not", wrong), ("all", (SUM, wrong)), ("any", (wrong, SUM)))[at % 3]
            self.right(found)
            self.wrong(wrong)

    def test_whatever_its_size(self):
        found = SUM
        for at in range(5000):
            found = ("not", found) if at % 2 else ("all", (MODE, found))
        self.assertIs(is_claim(MILL, found), True)
        self.assertIs(is_claim(LEAST, found), False)

    def test_lists_are_no_tuples(self):
        for claim in (SUM, MODE, MANY):
            self.wrong(swapped(claim))
            self.wrong(*[thing for thing in retold(claim)])

    def test_any_thing_is_told_of_and_not_changed(self):
        for thing in any_things(121):
            ahead = repr(thing)
            self.assertIs(is_claim(MILL, thing), False)
            self.assertEqual(repr(thing), ahead)
        for claim in (SUM, MODE, MANY):
            for thing in altered(claim, 122):
                ahead = repr(thing)
                self.assertIn(is_claim(MILL, thing), (True, False))
                self.assertEqual(repr(thing), ahead)

    def test_works_of_lists(self):
        handed = swapped(MILL)
        for claim in (SUM, MODE, MANY):
            self.assertIs(is_claim(handed, claim), True)
            self.assertIs(is_claim(handed, swapped(claim)), False)
        self.assertEqual(handed, swapped(MILL))

    def test_any_claim(self):
        rng = random.Random(123)
        for _ in range(300):
            works = any_works(rng)
            self.assertIs(is_claim(works, any_claim(rng, works, 4)), True)


class HoldsTest(unittest.TestCase):
    def told(self, claim, truth, stand=STAND):
        self.assertIs(holds(MILL, claim, stand), truth, (claim, stand))

    def test_both_ends_of_a_sum_and_one_beyond(self):
        for low in range(9):
            for high in range(9):
                self.told(("sum", ("pond", "race"), low, high), low <= 6 <= high)
                self.told(("sum", ("pond",), low, high), low <= 4 <= high)
                self.told(("sum", ("race",), low, high), low <= 2 <= high)
        self.told(("sum", ("race",), 0, 0), True, (("shut", "up"), (4, 0)))
        self.told(("sum", ("race",), 40, 0), False, (("shut", "up"), (4, 0)))

    def test_modes(self):
        self.told(MODE, True)
        self.told(("mode", "gate", ("wide",)), True)
        self.told(("mode", "gate", ("shut",)), False)
        self.told(("mode", "weir", ("down",)), True)
        self.told(("mode", "weir", ("up",)), False)
        self.told(("mode", "weir", ("down", "up")), True)
        self.assertIs(holds(SHARED, ("mode", "part", ("box",)), (("box", "part"), (0, 0, 0))), False)

    def test_not_all_any(self):
        yes, no = ("sum", ("pond",), 4, 4), ("sum", ("pond",), 5, 5)
        self.told(("not", yes), False)
        self.told(("not", no), True)
        self.told(("not", ("not", yes)), True)
        self.told(("all", ()), True)
        self.told(("any", ()), False)
        self.told(("not", ("all", ())), False)
        self.told(("not", ("any", ())), True)
        for first in (yes, no):
            self.told(("all", (first,)), first == yes)
            self.told(("any", (first,)), first == yes)
            for second in (yes, no):
                self.told(("all", (first, second)), first == second == yes)
                self.told(("any", (first, second)), yes in (first, second))
        self.told(("all", (yes, ("any", (no, ("not", no))), ("all", ()))), True)
        self.told(("any", (no, ("all", (yes, ("not", yes))), ("any", ()))), False)

    def test_lists_for_tuples_and_names(self):
        rng = random.Random(124)
        for _ in range(50):
            claim, stand = any_claim(rng, MILL, 4), any_stand(rng, MILL)
            handed = [swapped(MILL), swapped(claim), swapped(stand)]
            ahead = copy.deepcopy(handed)
            self.assertIs(holds(*handed), holds(works=MILL, claim=claim, stand=stand))
            self.assertEqual(handed, ahead)

    def test_whatever_its_size(self):
        found = MODE
        for _ in range(5001):
            found = ("not", found)
        self.told(found, False)
        self.told(("all", (MODE,) * 400), True)

    def test_as_the_document_words_it(self):
        rng = random.Random(125)
        truths = []
        for _ in range(1000):
            works = any_works(rng)
            claim, stand = any_claim(rng, works, 4), any_stand(rng, works)
            truths.append(plain.holds(works, claim, stand))
            self.assertIs(holds(works, claim, stand), truths[-1])
        self.assertGreater(min(truths.count(True), truths.count(False)), 200)


if __name__ == "__main__":
    unittest.main()
