"""What README.md shows is what the program prints."""

import contextlib
import io
import pathlib
import re
import unittest

README = pathlib.Path(__file__).resolve().parent.parent / "README.md"


class Readme(unittest.TestCase):
    def test_examples(self):
        blocks = re.findall(r"```(\w*)\n(.*?)```", README.read_text("utf-8"), re.DOTALL)
        known, shown = {}, None
        compared = 0
        for kind, body in blocks:
            if kind == "python":
                printed = io.StringIO()
                with contextlib.redirect_stdout(printed):
                    exec(body, known)
                shown = printed.getvalue()
            elif shown is not None:
                self.assertEqual(body, shown)
                shown, compared = None, compared + 1
        self.assertEqual(compared, 4)


if __name__ == "__main__":
    unittest.main()
