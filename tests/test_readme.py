"""README.md: what its example says is told."""

import re
import unittest
from pathlib import Path

README = Path(__file__).resolve().parent.parent / "README.md"


class TestReadme(unittest.TestCase):
    def test_example(self):
        code = re.search(r"```python\n(.*?)```", README.read_text(encoding="utf-8"), re.DOTALL).group(1)
        names, told = {}, 0
        for line in code.splitlines():
            call, _, comment = line.partition("  #")
            if comment:
                said = re.sub(r": (why|it|the) .*", "", comment.strip())
                self.assertEqual(repr(eval(call, names)), said, line)
                told += 1
            else:
                exec(line, names)
        self.assertGreater(told, 20)


if __name__ == "__main__":
    unittest.main()
