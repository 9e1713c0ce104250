import copy
import random
import unittest

from tests.samples import LEAST, MILL, SHARED, any_story, any_works, swapped
from worktwin.errors import BadRow
from worktwin.stories import is_story
from worktwin.storytext import story_in, story_text

STORY = (
    ["draw", "wait", "close"],
    [(3, "rod", 2), (0, "eye", 40), (1, "hand", "wide"), (0, "eye", 40), (1, "eye", 0)],
)
TEXT = """deed draw
deed wait
deed close
sign 3 rod 2
sign 0 eye 40
sign 1 hand wide
sign 0 eye 40
sign 1 eye 0"""
ROWS = TEXT.split("\n")


class StoryTextTest(unittest.TestCase):
    def test_text(self):
        self.assertEqual(story_text(STORY), TEXT)
        self.assertEqual(story_text(([], [])), "-")
        self.assertEqual(story_text(story=(["wait"], [])), "deed wait")
        self.assertEqual(story_text(([], [(0, "hand", "shut")])), "sign 0 hand shut")

    def test_lists_for_tuples(self):
        handed = swapped(STORY)
        self.assertEqual(story_text(handed), TEXT)
        self.assertEqual(story_text([[], []]), "-")
        self.assertEqual(story_text(((), ())), "-")
        self.assertEqual(handed, swapped(STORY))


class StoryInTest(unittest.TestCase):
    def bad(self, text, row, works=MILL):
        with self.subTest(text):
            with self.assertRaises(BadRow) as caught:
                story_in(works, text)
            self.assertEqual(caught.exception.what, row)
            self.assertIs(type(caught.exception.what), int)

    def bad_at(self, at, row):
        """Another row in the place of one of the story's is refused by its own number."""
        self.bad("\n".join([*ROWS[:at], row, *ROWS[at + 1:]]), at)

    def test_story(self):
        self.assertEqual(story_in(MILL, TEXT), STORY)
        self.assertEqual(story_in(works=MILL, text="deed wait"), (["wait"], []))
        self.assertEqual(story_in(MILL, "sign 0 rod 0"), ([], [(0, "rod", 0)]))
        self.assertEqual(story_in(swapped(MILL), TEXT), STORY)

    def test_there_and_back(self):
        rng = random.Random(93)
        for _ in range(300):
            works = any_works(rng)
            story = any_story(rng, works, 8, 24)
            self.assertEqual(story_in(works, story_text(story)), story)

    def test_whatever_its_size(self):
        story = (["wait"] * 120, [(beat, "rod", beat // 3) for beat in range(121)])
        self.assertEqual(story_in(MILL, story_text(story)), story)
        self.bad("\n".join(["deed wait"] * 99 + ["sign 100 rod 1"]), 99)

    def test_of_none(self):
        self.assertEqual(story_in(MILL, "-"), ([], []))
        self.assertEqual(story_in(LEAST, "-"), ([], []))

    def test_none_beside_other_rows(self):
        self.bad("-\ndeed wait", 0)
        self.bad("-\nsign 0 rod 1", 0)
        self.bad("deed wait\n-", 1)
        self.bad("deed wait\n-\nsign 0 rod 1", 1)
        self.bad("sign 0 rod 1\n-", 1)
        self.bad("-\n-", 0)
        self.bad("-\n", 0)
        self.bad("\n-", 0)
        for text in ("--", " -", "- ", "-\r", "- -"):
            self.bad(text, 0)

    def test_empty_text(self):
        self.bad("", 0)
        self.bad("\n", 0)
        self.bad(" ", 0)

    def test_line_feeds(self):
        self.bad(TEXT + "\n", len(ROWS))
        self.bad("\n" + TEXT, 0)
        self.bad("deed wait\n", 1)
        self.bad("deed wait\n\ndeed wait", 1)
        self.bad(TEXT.replace("\n", "\r\n"), 0)
        self.bad("deed wait\rdeed wait", 0)

    def test_a_deed_behind_a_sign(self):
        self.bad("sign 0 rod 1\ndeed wait", 1)
        self.bad("deed wait\nsign 0 rod 1\ndeed wait", 2)
        self.bad("deed wait\nsign 1 rod 1\ndeed none", 2)
        self.bad("deed wait\nsign 0 rod 1\nsign 1 rod 1\ndeed wait\nsign 2 rod 1", 3)

    def test_blanks_and_words(self):
        for at, row in enumerate(ROWS):
            words = row.split(" ")
            self.bad_at(at, row + " ")
            self.bad_at(at, " " + row)
            self.bad_at(at, row + " x")
            self.bad_at(at, row + " 1")
            self.bad_at(at, "")
            for place in range(1, len(words)):
                self.bad_at(at, " ".join(words[:place]) + "  " + " ".join(words[place:]))
                self.bad_at(at, " ".join(words[:place]) + "\t" + " ".join(words[place:]))
                self.bad_at(at, " ".join(words[:place]))
                self.bad_at(at, " ".join(words[:place]) + " ")
            for word in ("Deed", "deeds", "signs", "sensor", "-", "x"):
                self.bad_at(at, " ".join([word, *words[1:]]))

    def test_figures(self):
        odd = ("-1", "+1", "01", "00", "-0", "1.0", "1_0", "x", "-", "\u0661", "\u00b2", "\uff11", "9" * 5000, "0" * 5000)
        for word in odd:
            self.bad_at(3, f"sign {word} rod 2")
            self.bad_at(3, f"sign 0 rod {word}")

    def test_a_beat_that_cannot_stand_there(self):
        self.bad_at(3, "sign 4 rod 2")
        self.bad_at(5, "sign 10 hand wide")
        for many in range(3):
            deeds = ["deed wait"] * many
            self.bad("\n".join([*deeds, f"sign {many + 1} rod 1"]), many)
            found = story_in(MILL, "\n".join([*deeds, f"sign {many} rod 1"]))
            self.assertEqual(found, (["wait"] * many, [(many, "rod", 1)]))
        # No deed may come behind the sign, so its beat is none already.
        self.bad("sign 1 rod 1\ndeed wait", 0)

    def test_a_sensor_that_cannot_stand_there(self):
        for name in ("none", "gate", "pond", "-", "Rod", "rod,eye"):
            self.bad_at(3, f"sign 3 {name} 2")
        self.bad("sign 0 rod 2", 0, LEAST)

    def test_a_reading_that_cannot_stand_there(self):
        for word in ("41", "100", "wide", "rod"):
            self.bad_at(3, f"sign 3 rod {word}")
        for word in ("up", "gate", "1", "0", "Wide", "wide,shut", "-"):
            self.bad_at(5, f"sign 1 hand {word}")
        for reading in (0, 9, 10, 39, 40):
            self.assertEqual(story_in(MILL, f"sign 0 rod {reading}"), ([], [(0, "rod", reading)]))

    def test_a_deed_that_cannot_stand_there(self):
        for name in ("none", "gate", "shut", "eye", "-", "Wait", "draw,wait", "deed"):
            self.bad_at(1, f"deed {name}")
        self.bad("deed draw", 0, LEAST)
        self.assertEqual(story_in(LEAST, "deed wait\ndeed wait"), (["wait", "wait"], []))

    def test_names_that_are_words_of_rows(self):
        story = (["deed", "box", "wait"], [(2, "box", "part"), (3, "sum", 3)])
        text = "deed deed\ndeed box\ndeed wait\nsign 2 box part\nsign 3 sum 3"
        self.assertEqual(story_text(story), text)
        self.assertEqual(story_in(SHARED, text), story)

    def test_the_first_of_several_wrong_rows(self):
        for at in range(len(ROWS)):
            for later in range(at + 1, len(ROWS)):
                wrong = [row + " " if place in (at, later) else row for place, row in enumerate(ROWS)]
                self.bad("\n".join(wrong), at)

    def test_told_lists_are_the_askers_own(self):
        works = copy.deepcopy(swapped(MILL))
        for text in ("-", TEXT):
            found = story_in(works, text)
            again = copy.deepcopy(found)
            found[0].append("wait")
            found[1].append(None)
            self.assertEqual(story_in(works, text), again)
        self.assertEqual(works, swapped(MILL))

    def test_any_text_is_read_or_refused(self):
        rng = random.Random(94)
        signs = [chr(code) for code in range(32, 127)] + ["\n", "\n", " ", " ", "-", "0", "1", "2", "\r", "\t", "\u00e9"]
        texts = ["".join(rng.choice(signs) for _ in range(rng.randint(0, 20))) for _ in range(300)]
        for _ in range(3000):
            rows = rng.sample(ROWS, rng.randint(1, len(ROWS)))
            text = "\n".join(sorted(rows))
            for _ in range(rng.randint(0, 2)):
                at = rng.randint(0, len(text))
                text = text[:at] + rng.choice(["", rng.choice(signs)]) + text[at + rng.randint(0, 1):]
            texts.append(text)
        read = 0
        for text in texts:
            try:
                found = story_in(MILL, text)
            except BadRow as refusal:
                self.assertTrue(0 <= refusal.what <= text.count("\n"), text)
                continue
            read += 1
            self.assertIs(is_story(MILL, found), True)
            self.assertEqual(story_text(found), text)
        self.assertGreater(read, 100)


if __name__ == "__main__":
    unittest.main()
