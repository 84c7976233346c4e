"""[13]: what terms are."""

import unittest

from ringcede.terms import is_terms

LINES = ((1, 1), (2, 20))
SHARE = ("share", 0, 50, 10, 60, 10, 20, LINES)
LAYER = ("layer", 0, 50, 10, 60, 10, 20, LINES)
STOP = ("stop", 0, 50, 10, LINES)
ALL = (SHARE, LAYER, STOP)
# Lines that no cover of house 0 among 3 houses has.
BAD_LINES = (
    (), ((1, 0),), ((1, 21),), ((1, -1),), ((-1, 1),), ((6, 1),), ((1, 1), (1, 2)), ((1, 1), (2, 1), (1, 1)),
    ((0, 1),), ((1, 1), (0, 1)), ((3, 1),), ((1, 1), (3, 1)), ((2, 1), (5, 1)),
    ((1, 1), (2, 1), (3, 1), (4, 1), (5, 1)),
)


def changed(row, place, thing):
    return row[:place] + (thing,) + row[place + 1:]


class TermsTest(unittest.TestCase):

    def assert_terms(self, told, terms, houses=3):
        with self.subTest(houses=houses, terms=terms):
            self.assertIs(is_terms(houses, terms), told)

    def assert_bounds(self, row, place, low, high):
        for thing in (low, low + 1, high - 1, high):
            self.assert_terms(True, changed(row, place, thing))
        for thing in (low - 1, low - 50, high + 1, high + 50):
            self.assert_terms(False, changed(row, place, thing))

    def test_each_kind(self):
        for row in ALL:
            self.assert_terms(True, row)

    def test_house(self):
        for row in ALL:
            for house in range(3):
                lines = tuple((other, 1) for other in range(3) if other != house)
                self.assert_terms(True, row[:1] + (house,) + row[2:-1] + (lines,))
            for house in (-3, -2, -1, 3, 4, 6):
                self.assert_terms(False, changed(row, 1, house))

    def test_by(self):
        self.assert_bounds(SHARE, 2, 1, 100)
        self.assert_bounds(LAYER, 2, 0, 200)
        self.assert_bounds(STOP, 2, 0, 200)

    def test_most_is_from_1_on(self):
        for row in ALL:
            self.assert_bounds(row, 3, 1, 24)

    def test_whole(self):
        for row in (SHARE, LAYER):
            self.assert_bounds(row, 4, 1, 120)

    def test_whole_may_be_less_than_most(self):
        self.assert_terms(True, ("share", 0, 50, 24, 1, 0, 0, LINES))

    def test_days(self):
        for row in (SHARE, LAYER):
            for first, last in ((0, 99), (0, 0), (99, 99), (0, 1), (98, 99), (20, 20)):
                self.assert_terms(True, row[:5] + (first, last, LINES))
            for first, last in ((1, 0), (99, 0), (21, 20), (99, 98), (-1, 5), (-1, -1), (0, 100), (100, 100), (5, -1)):
                self.assert_terms(False, row[:5] + (first, last, LINES))

    def test_lines(self):
        for row in ALL:
            for lines in (((1, 1),), ((2, 20),), ((2, 1), (1, 20))):
                self.assert_terms(True, row[:-1] + (lines,))
            for lines in BAD_LINES:
                self.assert_terms(False, row[:-1] + (lines,))
            self.assert_terms(True, row[:-1] + (((5, 1), (1, 1), (3, 2), (2, 7)),), houses=6)
            self.assert_terms(False, row[:-1] + (((5, 1), (1, 1), (3, 2), (2, 7), (4, 1)),), houses=6)

    def test_count_of_houses(self):
        for row in ALL:
            for houses in (1, 2):
                self.assert_terms(False, row, houses)
            for houses in (3, 4, 5, 6):
                self.assert_terms(True, row, houses)

    def test_one_house_alone_has_none(self):
        for row in ALL:
            for lines in ((), ((0, 1),), ((1, 1),), ((5, 1),), ((-1, 1),)):
                for house in (0, 1):
                    self.assert_terms(False, changed(row[:-1], 1, house) + (lines,), houses=1)

    def test_rows_of_another_form(self):
        for row in ((), ("share",), ("layer",), ("stop",), ("stop", 0), ("cover",), ("",), (LINES,)):
            self.assert_terms(False, row)
        for row in ALL:
            for word in ("Share", "cover", "", "sign", "share ", "stops"):
                self.assert_terms(False, changed(row, 0, word))
            for many in range(len(row)):
                self.assert_terms(False, row[:many])
                self.assert_terms(False, row[:many] + row[many + 1:])
            self.assert_terms(False, row + (0,))
            self.assert_terms(False, row + (LINES,))

    def test_the_form_of_another_kind(self):
        self.assert_terms(False, ("share",) + STOP[1:])
        self.assert_terms(False, ("layer",) + STOP[1:])
        self.assert_terms(False, ("stop",) + SHARE[1:])
        # A cover of a table is no terms.
        self.assert_terms(False, (0, "share", 50, 10, LINES))


if __name__ == "__main__":
    unittest.main()
