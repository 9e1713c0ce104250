import importlib
import inspect
import unittest

# By file: each function with its arguments, as the interface writes them.
FUNCTIONS = {
    "works": {"is_works": "(thing)"},
    "worktext": {"works_text": "(works)", "works_in": "(text)"},
    "stands": {"is_stand": "(works, thing)", "begin_stands": "(works)"},
    "beats": {"behind": "(works, stand, deed, *, lot=())", "expected": "(works, stand, deed)"},
    "signs": {
        "is_sign": "(works, thing)",
        "fits": "(works, stand, sign)",
        "readings": "(works, stand, sensor)",
    },
    "stories": {
        "is_story": "(works, thing)",
        "told_story": "(works, story)",
        "until": "(works, story, beat)",
    },
    "storytext": {"story_text": "(story)", "story_in": "(works, text)"},
    "allowed": {
        "opened": "(works, story, *, lot=(), most=200)",
        "allowed": "(works, story, *, lot=(), most=200)",
    },
    "runs": {
        "run_with": "(works, story, beat, stand, *, lot=(), most=200)",
        "shows_run": "(works, story, thing, *, lot=())",
    },
    "claims": {"is_claim": "(works, thing)", "holds": "(works, claim, stand)"},
    "claimtext": {"claim_text": "(claim)", "claim_in": "(works, text)"},
    "sure": {
        "failing": "(works, story, beat, claim, *, lot=(), most=200)",
        "bounds": "(works, story, beat, some, *, lot=(), most=200)",
    },
    "nonepapers": {
        "none_paper": "(works, story, *, lot=(), where=(), most=200)",
        "shows_none": "(works, story, thing, *, lot=(), where=())",
    },
    "lumps": {"lumps": "(works, stands)", "shows_lumps": "(works, stands, thing)"},
    "sums": {"sums": "(works, stands)", "spanned": "(works, stands)"},
    "whatif": {
        "what_if": "(works, story, deeds, *, lot=(), most=200)",
        "what_bounds": "(works, story, deeds, some, *, lot=(), most=200)",
    },
    "lots": {
        "explains": "(works, story, lot, *, most=200)",
        "lots": "(works, story, *, most=200)",
        "cores": "(works, story, *, most=200)",
        "blamed": "(works, story, *, most=200)",
    },
    "lotpapers": {
        "lot_paper": "(works, story, lot, *, most=200)",
        "shows_lot": "(works, story, lot, thing)",
    },
    "account": {
        "account": "(works, story, *, most=200)",
        "shows_account": "(works, story, thing)",
    },
    "model": {
        "model": "(works, story, *, lot=(), most=200)",
        "corrected": "(works, story, *, lot=(), most=200)",
    },
    "joining": {
        "joined": "(works, stories)",
        "shared": "(works, stories, *, lot=(), most=200)",
    },
    "leading": {
        "plan": "(works, story, goal, *, keep=None, beats=2, lot=(), most=200)",
        "shows_plan": "(works, story, goal, thing, *, keep=None, lot=())",
        "needed": "(works, story, goal, *, keep=None, beats=2, lot=(), most=200)",
    },
    "deskrows": {"deskrow_in": "(text)"},
}

# The methods of each class stand in the tests of its own file.
CLASSES = {
    "twin": {"Twin": "(works, *, lot=(), most=200)"},
    "room": {"Room": "(*, most=200)"},
    "desk": {"Desk": "(*, most=200)"},
}

VALUES = {"allowed": {"MOST": 200}, "leading": {"BEATS": 2}, "desk": {"DEEP": 2}}


class InterfaceTest(unittest.TestCase):
    def test_functions(self):
        for file, functions in FUNCTIONS.items():
            module = importlib.import_module(f"worktwin.{file}")
            for name, arguments in functions.items():
                with self.subTest(f"{file}.{name}"):
                    found = getattr(module, name)
                    self.assertTrue(inspect.isfunction(found))
                    self.assertEqual(found.__module__, f"worktwin.{file}")
                    self.assertEqual(str(inspect.signature(found)), arguments)

    def test_classes(self):
        for file, classes in CLASSES.items():
            module = importlib.import_module(f"worktwin.{file}")
            for name, arguments in classes.items():
                found = getattr(module, name)
                self.assertTrue(inspect.isclass(found))
                self.assertEqual(found.__module__, f"worktwin.{file}")
                self.assertEqual(str(inspect.signature(found)), arguments)

    def test_values(self):
        for file, values in VALUES.items():
            for name, worth in values.items():
                self.assertEqual(getattr(importlib.import_module(f"worktwin.{file}"), name), worth)


if __name__ == "__main__":
    unittest.main()
