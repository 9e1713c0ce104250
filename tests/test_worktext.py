import copy
import random
import unittest

from tests.samples import ALL_WORKS, GREAT, LEAST, LEAST_TEXT, MILL, MILL_TEXT, SHARED, any_works, swapped
from worktwin.errors import BadRow
from worktwin.works import is_works
from worktwin.worktext import works_in, works_text

SHARED_TEXT = """works works
box box 3 0 3
box part 2 1 1
box sum 1 0 1
part box box,part box
part part part,sum,box box,part,sum
pipe box part part sum 0 1
pipe - box box box 1 1
deed box box:part part:box
deed deed part:sum
sensor box part box
sensor part sum box,sum 2
sensor sum sum part 3"""

ROWS = MILL_TEXT.split("\n")


class WorksTextTest(unittest.TestCase):
    def test_text(self):
        self.assertEqual(works_text(MILL), MILL_TEXT)
        self.assertEqual(works_text(works=LEAST), LEAST_TEXT)
        self.assertEqual(works_text(SHARED), SHARED_TEXT)

    def test_lists_for_tuples(self):
        for works in ALL_WORKS:
            handed = swapped(works)
            ahead = copy.deepcopy(handed)
            self.assertEqual(works_text(handed), works_text(works))
            self.assertEqual(handed, ahead)

    def test_no_line_feed_behind_the_last_row(self):
        for works in ALL_WORKS:
            self.assertFalse(works_text(works).endswith("\n"))


class WorksInTest(unittest.TestCase):
    def bad(self, text, row):
        with self.assertRaises(BadRow) as caught:
            works_in(text)
        self.assertEqual(caught.exception.what, row, text)
        self.assertIs(type(caught.exception.what), int)

    def bad_at(self, at, row):
        """Another row in the place of one of the mill's is refused by its own number."""
        with self.subTest(row):
            self.bad("\n".join([*ROWS[:at], row, *ROWS[at + 1:]]), at)

    def bad_behind(self, *rows):
        """The last of these rows, behind the least works, is refused by its own number."""
        with self.subTest(rows):
            text = "\n".join([LEAST_TEXT, *rows])
            self.bad(text, 2 + len(rows))
            works_in("\n".join([LEAST_TEXT, *rows[:-1]]))

    def test_works(self):
        self.assertEqual(works_in(MILL_TEXT), MILL)
        self.assertEqual(works_in(text=LEAST_TEXT), LEAST)
        self.assertEqual(works_in(SHARED_TEXT), SHARED)

    def test_there_and_back(self):
        rng = random.Random(51)
        for works in [*ALL_WORKS, *[any_works(rng, 3, 4, 9) for _ in range(200)]]:
            found = works_in(works_text(works))
            self.assertEqual(found, works)
            self.assertIs(is_works(found), True)

    def test_empty_text(self):
        self.bad("", 0)
        self.bad("\n", 0)
        self.bad(" ", 0)

    def test_line_feeds(self):
        self.bad(MILL_TEXT + "\n", len(ROWS))
        self.bad(LEAST_TEXT + "\n", 3)
        self.bad("\n" + LEAST_TEXT, 0)
        self.bad(LEAST_TEXT.replace("\n", "\n\n"), 1)
        self.bad(LEAST_TEXT.replace("\n", "\r\n"), 0)
        self.bad(LEAST_TEXT.replace("\n", "\r"), 0)
        self.bad(LEAST_TEXT + "\r", 2)

    def test_blanks(self):
        for at, row in enumerate(ROWS):
            self.bad_at(at, row + " ")
            self.bad_at(at, " " + row)
            self.bad_at(at, row.replace(" ", "  ", 1))
            self.bad_at(at, row.replace(" ", "\t", 1))
            self.bad_at(at, row.replace(" ", "\u00a0", 1))
            self.bad_at(at, row.replace(" ", ""))
            self.bad_at(at, "")

    def test_too_few_and_too_many_words(self):
        for at, row in enumerate(ROWS):
            words = row.split(" ")
            self.bad_at(at, row + " x")
            self.bad_at(at, row + " 1")
            for many in range(1, len(words)):
                if words[0] != "deed" or many < 3:
                    self.bad_at(at, " ".join(words[:many]))

    def test_figures(self):
        for at, row in enumerate(ROWS):
            words = row.split(" ")
            for place, word in enumerate(words):
                if word.isdigit():
                    for other in ("0" + word, "+" + word, "-" + word, word + ".", "x", "-", "10", "1_0", "9" * 5000,
                                  "\u0663", "\u00b2", "\uff11", "00", "-0", "+0", "0x1", "1e0"):
                        self.bad_at(at, " ".join([*words[:place], other, *words[place + 1:]]))

    def test_bounds_of_boxes(self):
        for row in ("box pond 0 0 0", "box pond 10 0 0", "box pond 5 4 3", "box pond 5 0 6", "box pond 5 6 6"):
            self.bad_at(1, row)
        self.assertEqual(works_in("works a\nbox b 9 9 9\npart p m,n -")[1], (("b", 9, 9, 9),))

    def test_bounds_of_pipes(self):
        for row in ("0 3", "2 1", "7 10", "6 9", "10 10"):
            self.bad_behind(f"pipe - b p m {row}")
        for least, most in ((0, 0), (0, 2), (7, 9), (9, 9)):
            found = works_in(f"{LEAST_TEXT}\npipe - b p m {least} {most}")
            self.assertEqual(found[3], (("", "b", "p", "m", least, most),))

    def test_bounds_of_slips(self):
        self.bad_behind("sensor s sum b 4")
        for slip in range(4):
            self.assertEqual(works_in(f"{LEAST_TEXT}\nsensor s sum b {slip}")[5], (("s", "sum", ("b",), slip),))

    def test_names(self):
        for name in ("ninechars", "A", "a1", "a_", "-", "a,b", "a:b", "\u00e9", "a\x00", "\ud800"):
            self.bad_at(0, f"works {name}")
            self.bad_at(1, f"box {name} 5 3 4")
            self.bad_at(3, f"part {name} shut,ajar,wide ajar")
            self.bad_at(9, f"deed {name} gate:shut")
            self.bad_at(12, f"sensor {name} sum pond 1")
            self.bad_at(12, f"sensor {name} part gate")

    def test_first_word(self):
        for at, row in enumerate(ROWS):
            rest = row.split(" ", 1)[1]
            for word in ("Works", "Box", "boxes", "thing", "x", "-", "sum"):
                self.bad_at(at, f"{word} {rest}")

    def test_modes(self):
        for modes in ("m", "m,m", "a,b,c,d", "m,", ",m", "m,,n", "-", "m,-", "M,n", "m;n", "m:n"):
            self.bad(f"works a\nbox b 1 0 0\npart p {modes} -", 2)

    def test_odd_modes(self):
        for odd in ("x", "n,m", "m,m", "m,", ",m", "m,-", "-,m", "--", "m,n,o"):
            self.bad(f"works a\nbox b 1 0 0\npart p n,m {odd}", 2)
        for odd in ("-", "m", "n", "m,n"):
            found = works_in(f"works a\nbox b 1 0 0\npart p n,m {odd}")
            self.assertEqual(found[2], (("p", ("n", "m"), () if odd == "-" else tuple(odd.split(","))),))

    def test_pipes(self):
        for row in ("- - p m", "b b p m", "x b p m", "b x p m", "p b p m", "b - - m", "b - p -", "b - x m", "b - p x"):
            self.bad_behind(f"pipe {row} 0 1")
        self.bad_behind("pipe -- b p m 0 1")
        found = works_in(f"{LEAST_TEXT}\npipe b - p n 0 1\npipe - b p m 1 1\npipe b - p n 0 1")
        self.assertEqual(found[3], (("b", "", "p", "n", 0, 1), ("", "b", "p", "m", 1, 1), ("b", "", "p", "n", 0, 1)))

    def test_deeds(self):
        for row in ("d p", "d p:", "d :m", "d p:x", "d x:m", "d p:m:n", "d p:m p:m", "d p:m p:n", "d -", "d p,m", "d"):
            self.bad_behind(f"deed {row}")
        self.bad_behind("deed wait p:m")
        self.bad_at(9, "deed close weir:up gate:shut")
        self.bad_at(9, "deed close gate:shut gate:wide")

    def test_sensors(self):
        for row in ("s sum b", "s sum - 0", "s sum x 0", "s sum b,b 0", "s sum p 0", "s sum b, 0", "s part b", "s part x",
                    "s part -", "s part p 0", "s mode p", "s sum", "s part p,p", "s part", "s"):
            self.bad_behind(f"sensor {row}")
        self.bad_at(12, "sensor eye sum race,pond 1")
        self.bad_at(12, "sensor eye part pond,race 1")

    def test_a_name_that_does_not_rise(self):
        self.bad_at(2, "box pond 3 0 0")
        self.bad_at(2, "box a 3 0 0")
        self.bad_at(4, "part gate up,down -")
        self.bad_at(4, "part a up,down -")
        self.bad_at(10, "deed close gate:wide weir:down")
        self.bad_at(10, "deed a gate:wide")
        self.bad_at(13, "sensor eye part gate")
        self.bad_at(13, "sensor a part gate")

    def test_an_earlier_kind(self):
        self.bad_behind("box c 1 0 0")
        later = ("pipe b - p m 0 0", "deed d p:m", "sensor s part p")
        for at, row in enumerate(later):
            self.bad_behind(row, "part q m,n -")
            self.bad_behind(row, "box c 1 0 0")
            self.bad_behind(row, "works a")
            for earlier in later[:at]:
                self.bad_behind(row, earlier)

    def test_a_second_works(self):
        self.bad("works a\nworks b\nbox b 1 0 0\npart p m,n -", 1)
        self.bad("works a\nworks a", 1)
        self.bad("works a\nbox b 1 0 0\nworks b\npart p m,n -", 2)
        self.bad_behind("works b")

    def test_works_stands_first(self):
        self.bad("box b 1 0 0\nworks a\npart p m,n -", 0)
        self.bad("box b 1 0 0\npart p m,n -", 0)
        self.bad("part p m,n -", 0)
        self.bad("sensor s part p", 0)

    def test_one_too_many(self):
        boxes = [f"box {name} 1 0 0" for name in "abcd"]
        self.bad("\n".join(["works a", *boxes, "part p m,n -"]), 4)
        self.assertEqual(len(works_in("\n".join(["works a", *boxes[:3], "part p m,n -"]))[1]), 3)
        parts = [f"part {name} m,n -" for name in "abcde"]
        self.bad("\n".join(["works a", boxes[0], *parts]), 6)
        self.assertEqual(len(works_in("\n".join(["works a", boxes[0], *parts[:4]]))[2]), 4)
        self.bad_behind(*["pipe b - p m 0 0"] * 6)
        self.bad_behind(*[f"deed {name} p:m" for name in "abcde"])
        self.bad_behind(*[f"sensor {name} part p" for name in "abcdef"])

    def test_a_part_ahead_of_which_no_box_stands(self):
        self.bad("works a\npart p m,n -", 1)
        self.bad("works a\npart p m,n -\nbox b 1 0 0", 1)

    def test_a_pipe_a_deed_a_sensor_ahead_of_which_no_part_stands(self):
        for row in ("pipe b - p m 0 0", "deed d p:m", "sensor s part p", "sensor s sum b 0"):
            self.bad(f"works a\nbox b 1 0 0\n{row}\npart p m,n -", 2)
            self.bad(f"works a\nbox b 1 0 0\n{row}", 2)
            self.bad(f"works a\n{row}", 1)

    def test_a_box_or_a_part_is_wanting(self):
        self.bad("works a", 1)
        self.bad("works a\nbox b 1 0 0", 2)
        self.bad("works a\nbox b 1 0 0\nbox c 1 0 0", 3)
        self.bad("works a\nbox b 1 0 0\n", 2)
        self.bad("works a\n", 1)

    def test_the_first_of_several_wrong_rows(self):
        for at in range(len(ROWS)):
            for later in range(at + 1, len(ROWS)):
                wrong = [row + " " if place in (at, later) else row for place, row in enumerate(ROWS)]
                self.bad("\n".join(wrong), at)
        self.bad("works a\nbox b 0 0 0", 1)

    def test_any_text_is_read_or_refused(self):
        rng = random.Random(52)
        signs = [chr(code) for code in range(32, 127)] + ["\n", "\n", " ", " ", "-", ",", ":", "\r", "\t", "\u00e9"]
        texts = ["".join(rng.choice(signs) for _ in range(rng.randint(0, 30))) for _ in range(300)]
        sources = [MILL_TEXT, LEAST_TEXT, SHARED_TEXT, works_text(GREAT)]
        for _ in range(3000):
            text = rng.choice(sources)
            for _ in range(rng.randint(1, 3)):
                at = rng.randint(0, len(text))
                text = text[:at] + rng.choice(["", rng.choice(signs)]) + text[at + rng.randint(0, 1):]
            texts.append(text)
        read = 0
        for text in texts:
            try:
                found = works_in(text)
            except BadRow as refusal:
                self.assertTrue(0 <= refusal.what <= text.count("\n") + 1, text)
                continue
            read += 1
            self.assertIs(is_works(found), True)
            self.assertEqual(works_text(found), text)
        self.assertGreater(read, 100)

    def test_rows_moved_about(self):
        rng = random.Random(53)
        for _ in range(500):
            rows = rng.sample(ROWS, rng.randint(1, len(ROWS)))
            text = "\n".join(rows)
            try:
                found = works_in(text)
            except BadRow:
                continue
            self.assertIs(is_works(found), True)
            self.assertEqual(works_text(found), text)


if __name__ == "__main__":
    unittest.main()
