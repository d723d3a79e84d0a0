"""What README.md shows is so."""

import pathlib
import re
import unittest

TEXT = (pathlib.Path(__file__).resolve().parent.parent / "README.md").read_text("utf-8")


class Readme(unittest.TestCase):
    def test_its_rows_tell_what_stands_behind_them(self):
        names, shown = {}, 0
        for block in re.findall(r"```python\n(.*?)```", TEXT, re.DOTALL):
            shown += self.check(block, names)
        self.assertGreater(shown, 20)

    def check(self, block, names):
        held, shown = "", 0
        for row in block.split("\n"):
            told = re.fullmatch(r"(\S.*?) +# (.*)", row)
            if told and not held:
                answer = re.sub(r", the \w+'s number$", "", told[2])
                self.assertEqual(eval(told[1], names), eval(answer, names), row)
                shown += 1
            else:
                held += row + "\n"
                try:
                    code = compile(held, "README.md", "exec")
                except SyntaxError:
                    continue
                exec(code, names)
                held = ""
        return shown


if __name__ == "__main__":
    unittest.main()
