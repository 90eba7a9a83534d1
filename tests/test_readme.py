"""What the README's examples print is what stands behind them."""

from contextlib import redirect_stdout
from io import StringIO
from pathlib import Path
import re
import unittest

README = Path(__file__).resolve().parent.parent / "README.md"


class ReadmeTest(unittest.TestCase):
    def test_examples(self):
        blocks = re.findall(r"```python\n(.*?)```", README.read_text(encoding="utf-8"), re.DOTALL)
        self.assertGreater(len(blocks), 6)
        for block in blocks:
            out = StringIO()
            with redirect_stdout(out):
                exec(compile(block, "README.md", "exec"), {})
            told = out.getvalue().splitlines()
            for line in re.findall(r"print\(.*\) +# (.*)", block):
                self.assertIn(line, told, block)


if __name__ == "__main__":
    unittest.main()
