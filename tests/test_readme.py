"""What README.md shows is what the program tells."""

import re
import unittest
from pathlib import Path

from tests.samples import same_kind

README = Path(__file__).resolve().parent.parent / "README.md"


class Readme(unittest.TestCase):
    def test_each_row_tells_what_stands_behind_it(self):
        known = {}
        shown = 0
        for block in re.findall(r"```python\n(.*?)```", README.read_text(), re.S):
            for row in block.split("\n"):
                code, mark, wanted = row.partition("# ")
                if mark:
                    self.assertTrue(same_kind(eval(code, known), eval(wanted, {})), row)
                    shown += 1
                else:
                    exec(code, known)
        self.assertGreater(shown, 50)
