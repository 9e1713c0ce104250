import random
import re
import unittest

from tests.samples import ALL_WORKS, LEAST, LEAST_TEXT, MILL, MILL_TEXT, TUB, any_works
from worktwin.deskrows import deskrow_in
from worktwin.errors import BadRow, BadText
from worktwin.works import is_works
from worktwin.worktext import works_in, works_text

NAME = "[a-z]{1,8}"
NUMBER = "(?:[0-9]|[123][0-9]|40)"

# By its first word, what a row has behind it.
RULES = {
    "begin": f" {NAME} (?P<works>.*)",
    "end": f" {NAME}",
    "deed": f" {NAME} {NAME}",
    "sign": f" {NAME} {NUMBER} {NAME} (?:{NUMBER}|{NAME})",
    "join": f" {NAME} {NAME}",
    "undo": "",
    "names": "",
    "reckoned": "",
    "now": f" {NAME}",
    "works": f" {NAME}",
    "story": f" {NAME}",
    "lots": f" {NAME}",
    "model": f" {NAME}",
    "stands": f" {NAME} {NUMBER}",
    "bounds": f" {NAME} {NUMBER} (?P<boxes>{NAME}(?:,{NAME})*)",
    "sure": f" {NAME} {NUMBER} [^\n]+",
    "plan": f" {NAME} {NUMBER} [^\n]+",
    "comes": f" {NAME}(?: {NAME}){{1,4}}",
    "again": f" (?!0){NUMBER}",
}


def desk_text(works):
    return " / ".join(works_text(works).split("\n"))


RIGHT = (
    ("begin m " + desk_text(TUB), ("begin", "m", TUB)),
    ("begin abcdefgh " + desk_text(LEAST), ("begin", "abcdefgh", LEAST)),
    ("end m", ("end", "m")),
    ("deed m fill", ("deed", "m", "fill")),
    ("deed m wait", ("deed", "m", "wait")),
    ("sign m 0 rod 3", ("sign", "m", 0, "rod", 3)),
    ("sign m 40 rod 40", ("sign", "m", 40, "rod", 40)),
    ("sign m 12 knob run", ("sign", "m", 12, "knob", "run")),
    ("join m n", ("join", "m", "n")),
    ("join m m", ("join", "m", "m")),
    ("undo", ("undo",)),
    ("names", ("names",)),
    ("reckoned", ("reckoned",)),
    ("now m", ("now", "m")),
    ("works m", ("works", "m")),
    ("story m", ("story", "m")),
    ("lots m", ("lots", "m")),
    ("model m", ("model", "m")),
    ("stands m 0", ("stands", "m", 0)),
    ("stands m 40", ("stands", "m", 40)),
    ("bounds m 1 tub", ("bounds", "m", 1, ("tub",))),
    ("bounds m 1 c,a,b", ("bounds", "m", 1, ("c", "a", "b"))),
    ("bounds m 1 a,b,c,d,e", ("bounds", "m", 1, ("a", "b", "c", "d", "e"))),
    ("sure m 2 sum tub 0 3", ("sure", "m", 2, "sum tub 0 3")),
    ("sure m 2 (all (not sum tub 0 3) (any))", ("sure", "m", 2, "(all (not sum tub 0 3) (any))")),
    ("sure m 2 x", ("sure", "m", 2, "x")),
    ("sure m 2  ", ("sure", "m", 2, " ")),
    ("sure m 2   ", ("sure", "m", 2, "  ")),
    ("sure m 2  sum  tub ", ("sure", "m", 2, " sum  tub ")),
    ("plan m 0 (all)", ("plan", "m", 0, "(all)")),
    ("plan m 3 mode tap run", ("plan", "m", 3, "mode tap run")),
    ("plan m 40  ", ("plan", "m", 40, " ")),
    ("comes m fill", ("comes", "m", ("fill",))),
    ("comes m fill stop fill wait", ("comes", "m", ("fill", "stop", "fill", "wait"))),
    ("again 1", ("again", 1)),
    ("again 40", ("again", 40)),
)

WRONG = (
    "", " ", "  ", "-", "/", "none", "Undo", "again", "end", "deed", "sign", "begin", "works", "m end",
    # Blanks too many, at either end or between.
    "undo ", " undo", "end m ", " end m", "end  m", "deed m  fill", "deed  m fill", "deed m fill ", "sign m 0  rod 3",
    "sign m 0 rod 3 ", "sign m 0 rod  3", "join m  n", "names ", " names", "now m ", "stands m 0 ", "stands  m 0", "bounds m 1 tub ",
    "bounds m  1 tub", "sure  m 2 x", "sure m  2 x", " sure m 2 x", "plan m  1 x", "comes m fill ", "comes m  fill", "comes m fill  stop",
    "again 1 ", "again  1", " again 1",
    # Words too few and too many.
    "end m n", "deed m", "deed m fill stop", "sign m 0 rod", "sign m rod 3", "sign m 0 rod 3 4", "sign m 0 3", "join m", "join m n o",
    "undo m", "undo 1", "names m", "reckoned m", "now", "now m n", "now m 1", "works m n", "story m 1", "lots m n", "model m 1", "stands m",
    "stands m 0 1", "stands 0", "bounds m 1", "bounds m tub", "bounds m 1 tub race", "bounds 1 tub", "sure m 2", "sure m 2 ", "sure 2 x",
    "sure m x", "plan m 1", "plan m 1 ", "plan m x", "comes m", "comes", "comes m ", "again 1 2",
    # Numbers beyond their bounds, with noughts ahead, or otherwise written.
    "stands m 41", "stands m 100", "stands m -1", "stands m +1", "stands m 00", "stands m 01", "stands m 1.0", "stands m one",
    "sign m 41 rod 3", "sign m 01 rod 3", "sign m 0 rod 41", "sign m 0 rod 03", "sign m 0 rod 400", "sign m 0 rod -3", "sign m x rod 3",
    "bounds m 41 tub", "bounds m 01 tub", "sure m 41 x", "sure m 02 x", "plan m 41 x", "plan m 00 x", "again 0", "again 41", "again 01",
    "again x", "again -1", "again 4 0", "stands m 1" + "0" * 5000, "stands m \u0661", "stands m \u00b2", "again \u0661",
    # What is no NAME.
    "end M", "end m1", "end abcdefghi", "end m-", "end \u00e9", "end 1", "deed m Fill", "deed m fill1", "deed 1 fill", "deed m abcdefghi",
    "sign m 0 Rod 3", "sign m 0 rod Run", "sign m 0 rod r3", "sign m 0 rod abcdefghi", "sign M 0 rod 3", "sign m 0 abcdefghi 3",
    "sign m 0 3 rod", "join m N", "join M n", "now M", "works abcdefghi", "story 1", "lots m,n", "model M", "stands M 0", "sure M 2 x",
    "plan abcdefghi 2 x", "comes M fill", "comes m Fill", "comes m fill,stop", "comes m fill 1", "comes m 1", "sign m 0 rod run,in",
    # Boxes.
    "bounds m 1 ,", "bounds m 1 tub,", "bounds m 1 ,tub", "bounds m 1 a,,b", "bounds m 1 a,a", "bounds m 1 a,b,a", "bounds m 1 a, b",
    "bounds m 1 A", "bounds m 1 abcdefghi", "bounds m 1 a;b", "bounds m 1 1", "bounds m 1 -",
    # Deeds to come.
    "comes m a b c d e", "comes m a b c d e f", "comes m a b c d ",
    # Works.
    "begin m", "begin m ", "begin " + desk_text(TUB), "begin M " + desk_text(TUB), "begin m  " + desk_text(TUB), "begin m " + desk_text(TUB) + " ",
    "begin m " + desk_text(TUB) + " /", "begin m " + desk_text(TUB) + " / ", "begin m / " + desk_text(TUB), "begin m works a",
    "begin m works a / box b 1 0 0", "begin m works a / part p m,n -", "begin m " + LEAST_TEXT, "begin m " + LEAST_TEXT.replace("\n", "/"),
    "begin m " + LEAST_TEXT.replace("\n", " /"), "begin m " + LEAST_TEXT.replace("\n", "/ "), "begin m " + LEAST_TEXT.replace("\n", "  / "),
    "begin m " + LEAST_TEXT.replace("\n", " /  "), "begin m " + LEAST_TEXT.replace("\n", " // "), "begin m " + LEAST_TEXT.replace("\n", " / / "),
    "begin m works a / box b 1 0 0 / part p m,n - / box c 1 0 0", "begin m n " + desk_text(LEAST),
)


def is_right(text):
    """Whether a row is so written, by the rules above."""
    word = re.match("[a-z]*", text).group(0)
    if word not in RULES or "\n" in text:
        return False
    found = re.fullmatch(word + RULES[word], text, re.DOTALL)
    if found is None:
        return False
    told = found.groupdict()
    if "works" in told:
        try:
            works_in(told["works"].replace(" / ", "\n"))
        except BadRow:
            return False
    return "boxes" not in told or len(set(told["boxes"].split(","))) == len(told["boxes"].split(","))


class DeskRowTest(unittest.TestCase):
    def refused(self, text):
        with self.subTest(text[:100]):
            with self.assertRaises(BadText) as caught:
                deskrow_in(text)
            self.assertEqual(caught.exception.what, text)

    def test_nineteen_words(self):
        self.assertEqual(len(RULES), 19)
        self.assertEqual({told[0] for _, told in RIGHT}, set(RULES))

    def test_right_ones(self):
        for text, wanted in RIGHT:
            with self.subTest(text):
                found = deskrow_in(text)
                self.assertEqual(repr(found), repr(wanted))
                self.assertTrue(is_right(text))
                self.assertEqual(deskrow_in(text=text), wanted)

    def test_wrong_ones(self):
        for text in WRONG:
            self.refused(text)
            self.assertFalse(is_right(text))

    def test_a_line_feed_anywhere(self):
        for text, _ in RIGHT:
            for at in range(len(text) + 1):
                self.refused(text[:at] + "\n" + text[at:])
                if at < len(text):
                    self.refused(text[:at] + "\n" + text[at + 1:])

    def test_works_of_all_kinds(self):
        rng = random.Random(281)
        for works in (*ALL_WORKS, TUB, *[any_works(rng) for _ in range(50)]):
            self.assertEqual(deskrow_in("begin name " + desk_text(works)), ("begin", "name", works))
        self.assertEqual(deskrow_in("begin m " + " / ".join(MILL_TEXT.split("\n")))[2], MILL)
        self.assertTrue(is_works(deskrow_in("begin m " + desk_text(LEAST))[2]))

    def test_claims_of_any_signs(self):
        for text in (" ", "/", " / ", "\t", "\r", "%", "\u00e9", "a\u2028b", "\x00", "'", "m 2 x", "x" * 5000, " " * 300):
            self.assertEqual(deskrow_in("sure m 2 " + text), ("sure", "m", 2, text))
            self.assertEqual(deskrow_in("plan m 2 " + text), ("plan", "m", 2, text))

    def test_blanks_that_are_none(self):
        for text in ("end\tm", "deed m\tfill", "end\u00a0m", "end m\r", "end m\t", "undo\r", "\tundo", "undo\x0b", "stands m\u30001"):
            self.refused(text)

    def test_any_text_is_read_or_refused(self):
        rng = random.Random(282)
        signs = "abmn 019,/:-()A\n\t"
        right = 0
        for _ in range(6000):
            text = rng.choice(RIGHT)[0]
            for _ in range(rng.randint(1, 3)):
                at = rng.randint(0, len(text))
                more = rng.choice(("", rng.choice(signs), rng.choice(text.split(" ") or [""])))
                text = text[:at] + more + text[at + rng.randint(0, 2):]
            if is_right(text):
                right += 1
                self.assertEqual(deskrow_in(text)[0], text.split(" ")[0])
            else:
                self.refused(text)
        self.assertGreater(right, 500)
        for _ in range(2000):
            text = "".join(rng.choice(signs) for _ in range(rng.randint(0, 12)))
            if not is_right(text):
                self.refused(text)


if __name__ == "__main__":
    unittest.main()
