"""The document's own examples, and those of the README."""

import doctest
import os
import unittest

from pushedback.errors import PushError

MARK = ">>> "


def sessions():
    """The pairs of what is typed and what is shown, "" where nothing is."""
    path = os.path.join(os.path.dirname(__file__), "examples.txt")
    with open(path, encoding="ascii") as file:
        lines = [line for line in file.read().split("\n") if line]
    for at, line in enumerate(lines):
        if line.startswith(MARK):
            shown = lines[at + 1] if at + 1 < len(lines) and not lines[at + 1].startswith(MARK) else ""
            yield line[len(MARK):], shown


def shown_by(typed, names):
    """What the typed line shows."""
    try:
        return repr(eval(typed, names))
    except PushError as error:
        fields = ", ".join(f"{name}={value!r}" for name, value in vars(error).items())
        return f"raises {type(error).__name__}({fields})"


class ExamplesTest(unittest.TestCase):
    def test_examples(self):
        names = {}
        count = 0
        for typed, shown in sessions():
            if shown:
                self.assertEqual(shown_by(typed, names), shown, typed)
                count += 1
            else:
                exec(typed, names)
        self.assertEqual(count, 65)

    def test_readme(self):
        path = os.path.join(os.path.dirname(os.path.dirname(__file__)), "README.md")
        with open(path, encoding="ascii") as file:
            examples = doctest.DocTestParser().get_examples(file.read())
        names = {}
        for example in examples:
            if example.want:
                self.assertEqual(shown_by(example.source.strip(), names), example.want.strip())
            else:
                exec(example.source, names)
        self.assertGreater(len(examples), 10)


if __name__ == "__main__":
    unittest.main()
