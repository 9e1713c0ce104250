import copy
import random
import unittest

from tests import plain
from tests.samples import LEAST, MILL, SHARED, WORDY, any_claim, any_works, swapped
from worktwin.claims import holds, is_claim
from worktwin.claimtext import claim_in, claim_text
from worktwin.errors import BadText

SUM = ("sum", ("pond", "race"), 2, 7)
MODE = ("mode", "gate", ("ajar", "wide"))

# Claims of the mill, each with its text.
PAIRS = (
    (SUM, "sum pond,race 2 7"),
    (("sum", ("pond",), 0, 40), "sum pond 0 40"),
    (("sum", ("race",), 40, 0), "sum race 40 0"),
    (MODE, "mode gate ajar,wide"),
    (("mode", "weir", ("up",)), "mode weir up"),
    (("not", SUM), "(not sum pond,race 2 7)"),
    (("not", MODE), "(not mode gate ajar,wide)"),
    (("not", ("not", MODE)), "(not (not mode gate ajar,wide))"),
    (("all", ()), "(all)"),
    (("any", ()), "(any)"),
    (("not", ("all", ())), "(not (all))"),
    (("all", (SUM,)), "(all sum pond,race 2 7)"),
    (("any", (SUM, MODE)), "(any sum pond,race 2 7 mode gate ajar,wide)"),
    (("all", (MODE, SUM, MODE)), "(all mode gate ajar,wide sum pond,race 2 7 mode gate ajar,wide)"),
    (("all", (("any", ()), ("all", ()))), "(all (any) (all))"),
    (
        ("any", (("not", ("all", (SUM, ("any", (MODE,))))), SUM)),
        "(any (not (all sum pond,race 2 7 (any mode gate ajar,wide))) sum pond,race 2 7)",
    ),
)

WRONG = (
    "", " ", "  ", "(", ")", "()", "( )", ")(", "sum", "mode", "not", "all", "any", "(sum", "(not)", "(not )", "(all ", "all)",
    "(all", "(any", "any)", "(all) ", " (all)", "( all)", "(all )", "(all  )", "(all))", "((all)", "((all))", "(all)(any)",
    "(all) (any)", "(any) sum pond 0 1", "(some)", "(none sum pond 0 1)", "(ALL)", "(All)", "-", "(-)", "(all,any)", "(all\n)",
    "sum pond 0", "sum pond 0 1 2", "sum pond", "sum 0 1", "sum pond,race", "sum pond race 0 1", "sum pond, race 0 1",
    "sum race,pond 0 1", "sum pond,pond 0 1", "sum none 0 1", "sum pond,none 0 1", "sum gate 0 1", "sum - 0 1", "sum , 0 1",
    "sum pond, 0 1", "sum ,pond 0 1", "sum pond,,race 0 1", "sum  0 1", "sum Pond 0 1", "Sum pond 0 1", "sum (pond) 0 1",
    "sum pond 00 1", "sum pond 01 1", "sum pond 0 01", "sum pond 0 41", "sum pond 41 0", "sum pond 0 100", "sum pond -1 1",
    "sum pond +1 1", "sum pond 1.0 2", "sum pond 1_0 20", "sum pond a b", "sum pond 0 " + "1" * 5000, "sum pond 0 ",
    "sum pond 0 1 ", " sum pond 0 1", "sum  pond 0 1", "sum pond  0 1", "sum pond 0  1", "sum pond 0 1\n", "sum\npond 0 1",
    "sum pond 0 1)", "(sum pond 0 1", "(sum pond 0 1)", "sum pond (0) 1", "sum pond 0 (1)", "sum pond 0,1", "sum pond 0 \u0661",
    "sum pond 0 1 sum race 0 1", "sum pond 0 1 (all)", "mode gate", "mode wide", "mode gate wide,ajar", "mode gate ajar,ajar",
    "mode gate up", "mode gate ajar,up", "mode none ajar", "mode pond ajar", "mode gate,weir up", "mode gate -", "mode gate ",
    "mode  ajar", "mode gate  ajar", "mode gate ajar wide", "mode gate ajar,", "mode gate ,ajar", "mode gate ajar ",
    " mode gate ajar", "Mode gate ajar", "mode gate Ajar", "mode gate ajar)", "(mode gate ajar)", "(mode gate ajar",
    "mode gate (ajar)", "mode (gate ajar)", "mode gate ajar\t", "not mode gate ajar", "not (mode gate ajar)",
    "(not mode gate ajar", "not mode gate ajar)", "(not mode gate ajar))", "((not mode gate ajar)", "(not  mode gate ajar)",
    "(not mode gate ajar )", "( not mode gate ajar)", "(notmode gate ajar)", "(not(all))", "(not (all)", "(not (all) )",
    "(not (all)(any))", "(not (all) (any))", "(not mode gate ajar mode weir up)", "(not not mode gate ajar)", "(not (not))",
    "(not (mode gate ajar))", "(all mode gate ajar", "(all mode gate ajar  mode weir up)", "(all mode gate ajar, mode weir up)",
    "(all mode gate ajar) mode weir up", "(all mode gate ajar)mode weir up", "(all mode gate ajar sum pond 0)",
    "(all sum pond 0 1 2)", "(all any)", "(all (any)", "(all (any)))", "(all(any))", "(all (any)(any))", "(all  (any))",
    "(all ((any)))", "(all (any) )", "(any sum pond 0 1 sum)", "(any sum pond 0 1 mode)", "(any mode gate ajar mode gate)",
    "all sum pond 0 1", "any", "wait", "a" * 5000, "(" * 5000, ")" * 5000, "(not " * 5000, "(all " * 5000 + ")" * 5000,
)


class ClaimTextTest(unittest.TestCase):
    def test_each_form(self):
        for claim, text in PAIRS:
            with self.subTest(text):
                self.assertEqual(claim_text(claim), text)
                self.assertEqual(claim_text(claim=swapped(claim)), text)

    def test_nothing_is_changed(self):
        for claim, _ in PAIRS:
            handed = swapped(claim)
            claim_text(handed)
            self.assertEqual(handed, swapped(claim))


class ClaimInTest(unittest.TestCase):
    def refused(self, works, text):
        with self.assertRaises(BadText) as caught:
            claim_in(works, text)
        self.assertEqual(caught.exception.what, text)

    def test_each_form(self):
        for claim, text in PAIRS:
            with self.subTest(text):
                self.assertEqual(claim_in(MILL, text), claim)
                self.assertIs(is_claim(MILL, claim_in(works=MILL, text=text)), True)

    def test_wrong_texts(self):
        for text in WRONG:
            with self.subTest(text[:80]):
                self.refused(MILL, text)

    def test_each_number(self):
        for number in range(41):
            self.assertEqual(claim_in(MILL, f"sum pond {number} {40 - number}"), ("sum", ("pond",), number, 40 - number))

    def test_of_that_works_alone(self):
        for claim, text in PAIRS:
            if "sum" in text or "mode" in text:
                self.refused(LEAST, text)
            else:
                self.assertEqual(claim_in(LEAST, text), claim)

    def test_names_that_are_words_of_claims(self):
        pairs = (
            (("sum", ("all", "not", "sum"), 1, 2), "sum all,not,sum 1 2"),
            (("sum", ("sum",), 1, 2), "sum sum 1 2"),
            (("mode", "any", ("mode", "not", "sum")), "mode any mode,not,sum"),
            (("mode", "mode", ("mode",)), "mode mode mode"),
            (("all", (("mode", "mode", ("all",)), ("sum", ("all",), 0, 0))), "(all mode mode all sum all 0 0)"),
            (("not", ("mode", "any", ("sum",))), "(not mode any sum)"),
            (("any", (("mode", "any", ("not",)), ("any", ()))), "(any mode any not (any))"),
        )
        for claim, text in pairs:
            self.assertEqual(claim_in(WORDY, text), claim)
            self.assertEqual(claim_text(claim), text)
        for text in ("sum sum sum 1 2", "mode mode", "mode mode mode mode", "sum not 1", "(sum sum 1 2)", "(mode)", "mode all any"):
            self.refused(WORDY, text)
        self.assertEqual(claim_in(SHARED, "sum box,part,sum 0 6"), ("sum", ("box", "part", "sum"), 0, 6))

    def test_works_of_lists(self):
        handed = swapped(MILL)
        for claim, text in PAIRS:
            self.assertEqual(claim_in(handed, text), claim)
        self.assertEqual(handed, swapped(MILL))
        self.refused(handed, "sum none 0 1")

    def test_deep_texts(self):
        for many in (1, 4, 12, 66, 3000):
            text = "(not " * many + "mode weir up" + ")" * many
            found = claim_in(MILL, text)
            self.assertEqual(claim_text(found), text)
            self.assertIs(is_claim(MILL, found), True)
            self.assertIs(holds(MILL, found, (("shut", "up"), (0, 0))), many % 2 == 0)
            self.refused(MILL, text + ")")
            self.refused(MILL, text[:-1])

    def test_there_and_back(self):
        rng = random.Random(131)
        for _ in range(500):
            works = any_works(rng)
            claim = any_claim(rng, works, 4)
            text = claim_text(claim)
            self.assertEqual(text, plain.claim_text(claim))
            self.assertEqual(claim_in(works, text), claim)

    def test_any_text_is_read_or_refused(self):
        rng = random.Random(132)
        words = ["sum", "mode", "not", "all", "any", "pond", "race", "pond,race", "gate", "weir", "up", "ajar,wide", "0", "7", "40"]
        words.extend(["(", ")", "(not", "(all", "(any", "(all)", "(any)", "7)", "up)", ",", "", "-", "41", "00", "\n", "?"])
        read = 0
        for _ in range(6000):
            text = " ".join(rng.choice(words) for _ in range(rng.randint(1, 6)))
            if rng.random() < 0.5:
                text = rng.choice(PAIRS)[1]
                at = rng.randrange(len(text) + 1)
                text = text[:at] + rng.choice(["", " ", "(", ")", "0", "1", ",", "a", "\n"]) + text[at + rng.choice((0, 1)):]
            try:
                claim = claim_in(MILL, text)
            except BadText as refusal:
                self.assertEqual(refusal.what, text)
            else:
                read += 1
                self.assertIs(is_claim(MILL, claim), True)
                self.assertEqual(plain.claim_text(claim), text)
        self.assertGreater(read, 20)

    def test_told_again_the_same(self):
        for claim, text in PAIRS:
            self.assertEqual(claim_in(MILL, text), copy.deepcopy(claim_in(MILL, text)))


if __name__ == "__main__":
    unittest.main()
