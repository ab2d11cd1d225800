"""Stacks, and rows of digits, as objects that never change."""

from pushedback.digitrows import added, row_of, stack_of, taken
from pushedback.evens import pop_even, push_even
from pushedback.guards import need
from pushedback.kinds import is_digits, is_number
from pushedback.stackreadings import read_stack
from pushedback.stacktexts import stack_line


class Stack:
    """One whole number, to push onto and to pop off."""

    def __init__(self, number):
        need(is_number(number), "number")
        self._number = number

    @property
    def number_now(self):
        """The number."""
        return self._number

    def __getitem__(self, at):
        """The row in the base at."""
        return row_of(at, self._number)

    def __iter__(self):
        raise TypeError("a Stack has a row in each base, none of its own")

    def __call__(self, many):
        """The digit below many that is popped, and the Stack that is left."""
        digit, left = pop_even(self._number, many)
        return digit, Stack(left)

    def with_even(self, many, digit):
        """The Stack with the digit below many pushed."""
        return Stack(push_even(self._number, many, digit))

    def with_digits(self, base, digits):
        """The Stack with the digits put behind its row."""
        return Stack(added(base, self._number, digits))

    def without(self, base, many):
        """The last many digits of its row, and the Stack of those ahead of them."""
        digits, left = taken(base, self._number, many)
        return digits, Stack(left)

    def __str__(self):
        return str(self._number)

    def __eq__(self, other):
        return isinstance(other, Stack) and self._number == other._number

    @staticmethod
    def of_row(base, *digits):
        """The Stack of the row."""
        return Stack(stack_of(base, digits))


class Rowed(Stack):
    """The Stack of a row of digits, which it keeps."""

    def __init__(self, base, digits):
        Stack.__init__(self, stack_of(base, digits))
        self._base = base
        self._digits = digits

    @property
    def base_now(self):
        """The base."""
        return self._base

    @property
    def digits_now(self):
        """The digits."""
        return self._digits

    def __len__(self):
        return len(self._digits)

    def __iter__(self):
        return iter(self._digits)

    def __str__(self):
        return str(stack_line(self._base, self._number))

    def __add__(self, other):
        """The Rowed with the row other put behind."""
        need(is_digits(self._base, other), "other")
        return Rowed(self._base, self._digits + other)

    @staticmethod
    def read(text):
        """The Rowed of the base and the digits of the line."""
        base, stack = read_stack(text)
        return Rowed(base, row_of(base, stack))
