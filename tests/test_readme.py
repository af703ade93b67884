"""What README.md shows of the program's use is so."""

import os
import re
import unittest

README = os.path.join(os.path.dirname(os.path.dirname(os.path.abspath(__file__))), "README.md")


class Readme(unittest.TestCase):
    def test_its_code(self):
        with open(README, encoding="ascii") as file:
            blocks = re.findall(r"```python\n(.*?)```", file.read(), re.DOTALL)
        self.assertEqual(len(blocks), 4)
        exec("\n".join(blocks), {})


if __name__ == "__main__":
    unittest.main()
