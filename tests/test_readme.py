import ast
import os
import re
import unittest

README = os.path.join(os.path.dirname(os.path.dirname(os.path.abspath(__file__))), "README.md")


class Readme(unittest.TestCase):
    def test_the_examples(self):
        """What stands behind an expression is what it returns, perhaps with a remark behind a comma."""
        with open(README, encoding="utf-8") as file:
            blocks = re.findall(r"```python\n(.*?)```", file.read(), re.DOTALL)
        names = {}
        shown = 0
        for line in "".join(blocks).splitlines():
            code, _, told = line.partition("  # ")
            if told and not re.match(r"\w+ = ", code):
                shown += 1
                self.assertEqual(eval(code.strip(), names), ast.literal_eval(re.sub(r", the .*", "", told.strip())))
            else:
                exec(code, names)
        self.assertGreater(shown, 4)


if __name__ == "__main__":
    unittest.main()
