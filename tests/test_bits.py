"""[1], [2], [11], [12]: bits, rows and their numbers; the errors."""

import unittest

from guardrungs import errors
from guardrungs.bits import check_row, is_bit, number_of, row_at, rows_of
from guardrungs.errors import BadNumber, BadRow, TooMany
from tests.checks import NO_BITS, NO_NUMBERS, NO_ROWS, Case


class TestErrors(Case):
    ATTRIBUTES = {
        "BadRow": ("place",), "BadName": ("name",), "BadFormula": (), "BadText": ("line",),
        "BadBook": ("word", "place"), "BadMachine": ("standing",), "BadPlant": ("word", "place"),
        "BadWish": ("word", "place"), "BadFalling": (), "BadLot": ("place",), "BadNumber": ("word",),
        "OtherShape": (), "NoGuard": (), "HasGuard": (), "NotCarried": (), "NoMap": (), "Gone": ("word",),
        "TooMany": ("limit",)}

    def test_all_stand_directly_under_rungs_error(self):
        self.assertEqual(errors.RungsError.__bases__, (ValueError,))
        for name, attributes in self.ATTRIBUTES.items():
            error = getattr(errors, name)
            self.assertEqual(error.__bases__, (errors.RungsError,), name)
            things = [object() for _ in attributes]
            raised = error(*things)
            for attribute, thing in zip(attributes, things):
                self.assertIs(getattr(raised, attribute), thing)
            self.assertIsInstance(str(raised), str)

    def test_no_other_errors(self):
        told = {name for name, value in vars(errors).items() if isinstance(value, type)}
        self.assertEqual(told, set(self.ATTRIBUTES) | {"RungsError"})


class TestBits(Case):
    def test_is_bit(self):
        self.assertIs(is_bit(0), True)
        self.assertIs(is_bit(1), True)
        for value in NO_BITS:
            self.assertIs(is_bit(value), False, value)

    def test_check_row(self):
        self.told((1, 0, 1), check_row, [1, 0, 1], 3)
        self.told((1, 0), check_row, (1, 0), 2)
        self.told((), check_row, [], 0)
        self.told((0,) * 300, check_row, [0] * 300, 300)

    def test_check_row_refuses(self):
        for value in NO_ROWS:
            self.refused(BadRow, {"place": -1}, check_row, value, 2)
        self.refused(BadRow, {"place": -1}, check_row, (1, 0), 3)
        self.refused(BadRow, {"place": -1}, check_row, (1, 0), 1)
        self.refused(BadRow, {"place": -1}, check_row, (), 1)
        for value in NO_BITS:
            self.refused(BadRow, {"place": 1}, check_row, [1, value, 0, value], 4)
        # The length comes ahead of what stands in the row.
        self.refused(BadRow, {"place": -1}, check_row, [2, 2], 3)

    def test_row_is_a_copy(self):
        row = [1, 0]
        told = check_row(row, 2)
        row[0] = 0
        self.assertEqual(told, (1, 0))

    def test_rows_of(self):
        self.told(((),), rows_of, 0)
        self.told(((0,), (1,)), rows_of, 1)
        self.told(((0, 0), (0, 1), (1, 0), (1, 1)), rows_of, 2)
        rows = rows_of(10)
        self.assertEqual(len(rows), 1024)
        self.assertEqual(list(rows), sorted(set(rows)))
        self.assertEqual([number_of(row) for row in rows], list(range(1024)))

    def test_rows_of_refuses(self):
        for value in NO_NUMBERS + [-1, -11]:
            self.refused(BadNumber, {"word": "many"}, rows_of, value)
        self.refused(TooMany, {"limit": 10}, rows_of, 11)
        self.refused(TooMany, {"limit": 10}, rows_of, 10 ** 30)

    def test_number_of(self):
        self.told(0, number_of, ())
        self.told(0, number_of, [0, 0, 0])
        self.told(6, number_of, (1, 1, 0))
        self.told(3, number_of, [0, 1, 1])
        self.told(2 ** 99, number_of, [1] + [0] * 99)
        for value in NO_ROWS:
            self.refused(BadRow, {"place": -1}, number_of, value)
        for value in NO_BITS:
            self.refused(BadRow, {"place": 2}, number_of, (0, 1, value, 5))

    def test_row_at(self):
        self.told((), row_at, 0, 0)
        self.told((1, 1, 0), row_at, 6, 3)
        self.told((0, 0, 0, 1), row_at, 1, 4)
        self.told((1,) * 64, row_at, 2 ** 64 - 1, 64)
        self.told((0,) * 64, row_at, 0, 64)
        for many in range(8):
            self.assertEqual(tuple(row_at(number, many) for number in range(2 ** many)), rows_of(many))

    def test_row_at_refuses_many_first(self):
        for value in NO_NUMBERS + [-1, 65]:
            self.refused(BadNumber, {"word": "many"}, row_at, 0, value)
            self.refused(BadNumber, {"word": "many"}, row_at, -1, value)
        for value in NO_NUMBERS + [-1, 8, 9]:
            self.refused(BadNumber, {"word": "number"}, row_at, value, 3)
        self.refused(BadNumber, {"word": "number"}, row_at, 1, 0)
        self.refused(BadNumber, {"word": "number"}, row_at, 2 ** 64, 64)


if __name__ == "__main__":
    unittest.main()
