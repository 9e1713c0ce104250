"""What README.md shows is what the program tells."""

import pathlib
import re
import unittest

README = pathlib.Path(__file__).resolve().parent.parent / "README.md"


class ReadmeTest(unittest.TestCase):
    def test_the_examples(self):
        code = re.search(r"```python\n(.*?)```", README.read_text(encoding="utf-8"), re.DOTALL).group(1)
        known, rows, tried = {}, [], 0
        for row in code.split("\n"):
            asked, parted, told = row.partition("   # ")
            if not parted:
                rows.append(row)
                continue
            # What stands ahead is done first, the asked row just once.
            exec("\n".join(rows), known)
            rows = []
            with self.subTest(asked):
                self.assertEqual(repr(eval(asked, known)), told)
            tried += 1
        self.assertGreater(tried, 20)


if __name__ == "__main__":
    unittest.main()
