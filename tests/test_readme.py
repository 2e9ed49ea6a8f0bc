"""The examples of README.md tell what they say."""

import os
import re
import unittest

README = os.path.join(os.path.dirname(os.path.abspath(__file__)), "..", "README.md")


def examples():
    """The lines of the examples: each with what it is said to tell, or None."""
    with open(README, encoding="utf-8") as file:
        blocks = re.findall(r"```python\n(.*?)```", file.read(), re.S)
    for block in blocks:
        for line in block.splitlines():
            code, _, said = line.partition("  #")
            yield (code, said.strip() or None)


class ReadmeTest(unittest.TestCase):
    def test_examples(self):
        names = {}
        compared = 0
        for code, said in examples():
            if code.startswith((" ", "try", "except")):
                continue
            if said is None or re.match(r"\w+ = ", code):
                exec(code, names)
                continue
            told = repr(eval(code, names)).replace("'", '"')
            if said.startswith(("\"", "(", "[", "{", "-")) or said[0].isdigit() or said.split(":")[0] in ("True", "False"):
                self.assertTrue(said == told or said.startswith((told + ":", told + ";")), (code, said, told))
                compared += 1
        self.assertGreater(compared, 40)


if __name__ == "__main__":
    unittest.main()
