"""Point 4: what a table is; point 2: what a whole number is."""

import unittest

from boughturn.tables import is_table
from tests.samples import ODD_THINGS, TABLES, deep


def still(letters, many):
    """Rows that make of each letter that letter and hand on 0."""
    return tuple((tuple(range(letters)), (0,) * letters) for _ in range(many))


def one_row(swaps, parts, letters=2):
    return (letters, ((swaps, parts),))


class TableTests(unittest.TestCase):

    def yes(self, thing):
        self.assertIs(is_table(thing), True, thing)

    def no(self, thing):
        self.assertIs(is_table(thing), False, thing)

    def test_tables(self):
        for table in TABLES:
            self.yes(table)

    def test_each_number_of_letters_and_rows(self):
        for letters in (2, 3, 4):
            for many in range(9):
                self.yes((letters, still(letters, many)))

    def test_too_few_and_too_many_letters(self):
        for letters in (-2, 0, 1, 5, 6, 10 ** 59):
            self.no((letters, ()))
        for letters in (1, 5):
            self.no((letters, still(letters, 1)))

    def test_too_many_rows(self):
        for letters in (2, 3, 4):
            self.no((letters, still(letters, 9)))
        self.no((2, still(2, 20)))

    def test_any_order_of_swaps(self):
        self.yes(one_row((1, 0), (0, 0)))
        self.yes(one_row((2, 0, 1), (0, 0, 0), 3))
        self.yes(one_row((3, 1, 0, 2), (0, 0, 0, 0), 4))

    def test_swaps_with_a_letter_twice_left_out_or_beyond(self):
        for swaps in ((0, 0), (1, 1), (0,), (), (0, 2), (1, 2), (-1, 0), (0, -1), (0, 1, 0), (0, 1, 2)):
            self.no(one_row(swaps, (0, 0)))
        for swaps in ((0, 1, 1), (0, 1), (0, 1, 3), (1, 2, 3), (0, 1, 2, 2)):
            self.no(one_row(swaps, (0, 0, 0), 3))
        self.no(one_row((0, 1, 2, 4), (0, 0, 0, 0), 4))

    def test_parts_from_edge_to_edge(self):
        for many in range(1, 9):
            first = ((0, 1), (many, -many))
            self.yes((2, (first, *still(2, many - 1))))

    def test_parts_beyond_the_rows(self):
        for many in range(1, 9):
            for part in (many + 1, -many - 1):
                for parts in ((part, 0), (0, part)):
                    self.no((2, (((0, 1), parts), *still(2, many - 1))))
                    self.no((2, (*still(2, many - 1), ((0, 1), parts))))
        self.no(one_row((0, 1), (10 ** 59, 0)))

    def test_too_few_and_too_many_parts(self):
        for parts in ((), (0,), (0, 0, 0)):
            self.no(one_row((0, 1), parts))
        for parts in ((0, 0), (0, 0, 0, 0)):
            self.no(one_row((0, 1, 2), parts, 3))

    def test_truths_in_the_place_of_numbers(self):
        self.no((True, ()))
        self.no((False, ()))
        for swaps in ((0, True), (False, 1), (True, False)):
            self.no(one_row(swaps, (0, 0)))
        for parts in ((0, True), (False, 0), (True, 1)):
            self.no(one_row((0, 1), parts))

    def test_lists_in_the_place_of_tuples(self):
        self.no([2, ()])
        self.no((2, []))
        self.no((2, [((0, 1), (0, 0))]))
        self.no((2, ([(0, 1), (0, 0)],)))
        self.no(one_row([0, 1], (0, 0)))
        self.no(one_row((0, 1), [0, 0]))

    def test_too_few_and_too_many_things_in_tuples(self):
        self.no((2,))
        self.no((2, (), ()))
        for row in ((), ((0, 1),), ((0, 1), (0, 0), (0, 0))):
            self.no((2, (row,)))

    def test_things_of_other_kinds(self):
        for thing in ODD_THINGS:
            self.no(thing)
            self.no((2, (thing,)))
            self.no(one_row(thing, (0, 0)))
            self.no(one_row((0, 1), thing))

    def test_letters_and_rows_of_other_kinds(self):
        for thing in ODD_THINGS:
            if thing != 2:
                self.no((thing, ()))
            if thing != ():
                self.no((2, thing))

    def test_parts_of_other_kinds(self):
        for part in (None, "0", "", (), [], (0,), [0], deep(7, 0, list)):
            self.no(one_row((0, 1), (part, 0)))
            self.no(one_row((0, 1), (0, part)))
            self.no(one_row((0, part), (0, 0)))

    def test_one_bad_row_among_good_ones(self):
        good = still(3, 7)
        for at in range(8):
            self.no((3, (*good[:at], ((0, 1, 1), (0, 0, 0)), *good[at:])))


if __name__ == "__main__":
    unittest.main()
