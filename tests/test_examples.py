"""The examples of the document, as they stand there (copied to examples.md)."""

import os
import unittest

HERE = os.path.dirname(os.path.abspath(__file__))


def read_blocks():
    """Return each example as a list of (code, expected line or None)."""
    blocks, current = [], None
    with open(os.path.join(HERE, "examples.md"), encoding="utf-8") as file:
        for line in file.read().split("\n"):
            if line == "```":
                if current is not None:
                    blocks.append(current)
                current = [] if current is None else None
            elif current is not None and line.startswith(">>> "):
                current.append((line[4:], None))
            elif current is not None:
                current[-1] = (current[-1][0], line)
    return blocks


def shown_error(error):
    """Return an error as the document writes it: its name and its attributes."""
    inside = ", ".join(f"{name}={value!r}" for name, value in vars(error).items())
    return f"raises {error.__class__.__name__}({inside})"


def answer(code, expected, names):
    """Return what the document would write below this line of code, None if nothing."""
    if expected is None:
        exec(code, names)
        return None
    try:
        return repr(eval(code, names))
    except ValueError as error:
        return shown_error(error)


class Examples(unittest.TestCase):
    def test_every_example(self):
        blocks = read_blocks()
        self.assertEqual(len(blocks), 28)
        for block in blocks:
            names = {}
            for code, expected in block:
                with self.subTest(code=code):
                    self.assertEqual(answer(code, expected, names), expected)


if __name__ == "__main__":
    unittest.main()
