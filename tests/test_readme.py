"""The examples of README.md tell what stands behind them."""

import pathlib
import re
import unittest

README = pathlib.Path(__file__).resolve().parent.parent / "README.md"


class ReadmeTest(unittest.TestCase):
    def test_examples(self):
        names, asked = {}, 0
        for block in re.findall(r"```python\n(.*?)```", README.read_text("utf-8"), re.DOTALL):
            for line in block.splitlines():
                code, sign, due = line.partition("# ")
                if not sign or re.match(r"print|\w+ = ", code):
                    exec(code.replace("print(", "str("), names)
                else:
                    told = repr(eval(code, names))
                    self.assertRegex(due, rf"^{re.escape(told)}($|:|,)", code)
                    asked += 1
        self.assertGreater(asked, 40)


if __name__ == "__main__":
    unittest.main()
