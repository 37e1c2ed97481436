"""The examples of README.md print what stands beside them."""

import contextlib
import io
import re
import unittest
from pathlib import Path

README = Path(__file__).resolve().parent.parent / "README.md"
MODULES = README.parent / "tautparcel"


class Readme(unittest.TestCase):
    def test_examples(self):
        text = README.read_text(encoding="utf-8")
        code = "\n".join(re.findall(r"```python\n(.*?)```", text, re.DOTALL))
        told = [line.partition("# ")[2] for line in code.split("\n") if "# " in line]
        self.assertGreater(len(told), 4)
        printed = io.StringIO()
        with contextlib.redirect_stdout(printed):
            exec(code, {})
        self.assertEqual(printed.getvalue().split("\n")[:-1], told)

    def test_each_module_is_named(self):
        text = README.read_text(encoding="utf-8")
        for path in MODULES.glob("*.py"):
            if path.stem != "__init__":
                self.assertIn(f"| `{path.stem}` |", text)


if __name__ == "__main__":
    unittest.main()
