"""The examples of README.md tell what the program tells."""

import pathlib
import re
import unittest

README = pathlib.Path(__file__).resolve().parent.parent / "README.md"


class ReadmeTest(unittest.TestCase):
    def test_examples(self):
        names = {}
        told = 0
        for block in re.findall(r"```python\n(.*?)```", README.read_text(), re.DOTALL):
            for line in block.splitlines():
                asked, behind, answer = line.partition(" # ")
                if behind:
                    self.assertEqual(eval(asked.strip(), names), eval(answer), line)
                    told += 1
                else:
                    exec(line, names)
        self.assertGreater(told, 40)


if __name__ == "__main__":
    unittest.main()
