import unittest

from pushedback.errors import InvalidText
from pushedback.stackreadings import read_stack
from pushedback.stacktexts import stack_line
from tests.refusals import NO_BASE, NO_NUMBER, NO_STRING, check_refusals

BIG = 10 ** 60 + 7


class StackreadingsTest(unittest.TestCase):
    def field(self, text):
        with self.assertRaises(InvalidText) as caught:
            read_stack(text)
        self.assertEqual(caught.exception.line, 0)
        return caught.exception.field

    def test_lines(self):
        self.assertEqual(stack_line(2, 0), "stack 2")
        self.assertEqual(stack_line(2, 1), "stack 2 0")
        self.assertEqual(stack_line(2, 2), "stack 2 1")
        self.assertEqual(stack_line(256, 256), "stack 256 255")
        self.assertEqual(stack_line(256, 257), "stack 256 0 0")

    def test_there_and_back(self):
        for base in (2, 3, 10, 99, 100, 256):
            for stack in list(range(40)) + [base, base + 1, base ** 30, BIG, 10 ** 500 - 1]:
                self.assertEqual(read_stack(stack_line(base, stack)), (base, stack))

    def test_each_word(self):
        words = ["stack", "3", "0", "2", "1"]
        for at in range(len(words)):
            for odd in ("", "x", "-1", "+1", "00", "01", "1_0", "1.0", "257", "3\n", "\n", "0\n", "Stack"):
                replaced = words[:at] + [odd] + words[at + 1:]
                put_in = words[:at] + [odd] + words[at:]
                self.assertEqual(self.field(" ".join(put_in)), at, put_in)
                self.assertEqual(self.field(" ".join(replaced)), at, replaced)
        self.assertEqual(self.field("3 0 2 1"), 0)
        self.assertEqual(self.field("stack 0 2 1"), 1)
        self.assertEqual(read_stack("stack 3 2 1"), (3, 4 + 7))

    def test_missing_words(self):
        self.assertEqual(self.field(""), 0)
        self.assertEqual(self.field("stack"), 1)
        self.assertEqual(self.field("stack "), 1)
        self.assertEqual(self.field(" stack 2"), 0)
        self.assertEqual(self.field("stack  2"), 1)
        self.assertEqual(self.field("stack 2 "), 2)
        self.assertEqual(self.field("stack 2 0  1"), 3)
        self.assertEqual(self.field("stack 2\n"), 1)
        self.assertEqual(self.field("stack 2 1\n"), 2)
        self.assertEqual(self.field("stack\n2"), 0)

    def test_bases_and_digits(self):
        for word in ("0", "1", "257", "1000", "9" * 500, "02"):
            self.assertEqual(self.field(f"stack {word}"), 1)
        for base in (2, 10, 256):
            self.assertEqual(read_stack(f"stack {base} {base - 1}"), (base, base))
            self.assertEqual(self.field(f"stack {base} 0 {base}"), 3)
            self.assertEqual(self.field(f"stack {base} 0 1 " + "9" * 500), 4)
        self.assertEqual(self.field("stack x x"), 1)
        self.assertEqual(self.field("stack 2 0 2 x"), 3)

    def test_refusals(self):
        check_refusals(self, read_stack, {"text": "stack 2 0"}, {"text": NO_STRING})
        check_refusals(self, stack_line, {"base": 2, "stack": 6}, {"base": NO_BASE, "stack": NO_NUMBER})


if __name__ == "__main__":
    unittest.main()
