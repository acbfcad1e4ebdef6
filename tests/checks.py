"""What many tests ask."""

import copy
import unittest


def is_tuples(value):
    """True if the value is made of tuples, integers, strings and None alone, also inside."""
    if isinstance(value, tuple):
        return all(is_tuples(part) for part in value)
    return value is None or isinstance(value, (int, str))


class Case(unittest.TestCase):
    def refused(self, error, told, function, *args, **more):
        """The call raises just this error, with these attributes, and leaves its arguments as they were."""
        before = copy.deepcopy((args, more)) if plain(args) else None
        try:
            function(*args, **more)
        except error as raised:
            self.assertIs(type(raised), error)
            self.assertEqual(vars(raised), told)
            for name, value in told.items():
                self.assertIs(type(getattr(raised, name)), type(value))
            if before is not None:
                self.assertEqual((args, more), before)
            return raised
        self.fail(f"{error.__name__} was not raised")

    def told(self, wanted, function, *args, **more):
        """The call gives this answer, of tuples, twice, and leaves its arguments as they were."""
        before = copy.deepcopy((args, more)) if plain(args) else None
        answer = function(*args, **more)
        self.assertEqual(answer, wanted)
        self.assertIs(type(answer), type(wanted))
        self.assertTrue(is_tuples(answer) or not plain((answer,)))
        self.assertEqual(function(*args, **more), wanted)
        if before is not None:
            self.assertEqual((args, more), before)
        return answer


def plain(value):
    """True for what has no objects of the package in it."""
    if isinstance(value, (list, tuple)):
        return all(plain(part) for part in value)
    if isinstance(value, dict):
        return all(plain(part) for part in value.values())
    return value is None or isinstance(value, (int, str, bytes, float))


# What is no row, no name, no integer: handed in where such a thing is wanted.
NO_ROWS = [None, 0, "01", {0: 1}, {0, 1}, b"01", (bit for bit in (0, 1))]
NO_BITS = [2, -1, True, False, "0", None, 1.0, 0.0, (1,), [0]]
NO_NAMES = [
    "", "A", "a.", ".a", "1a", "a b", "a_b", "aB", "not", "and", "or", "rise", "fall", "a" * 41, "\u00e9", "a\n",
    None, 1, ("a",), ["a"], b"a", "a-b", " a", "a ", "a\t", "\u0430", "a\u0663"]
NO_NUMBERS = [True, False, None, "1", 1.0, (1,), [1]]
