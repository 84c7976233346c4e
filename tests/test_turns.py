"""[2]: lines, and how a bill is borne crown by crown; with [1] as far as it speaks of this."""

import itertools
import unittest

from helper import told_parts
from ringcede.errors import BadCrowns, BadLines
from ringcede.turns import bearer, parts

GOOD_LINES = (
    ((0, 1),),
    ((5, 20),),
    ((0, 1), (1, 2)),
    ((1, 2), (0, 1)),
    ((3, 4), (1, 4)),
    ((4, 20), (2, 1)),
    ((0, 3), (1, 2), (2, 1)),
    ((2, 6), (5, 9), (0, 15)),
    ((3, 1), (2, 1), (1, 1), (0, 1)),
    ((0, 20), (5, 19), (1, 7), (4, 1)),
    ((5, 2), (4, 4), (3, 6), (2, 8)),
)

BAD_LINES = (
    ("no pair", ()),
    ("a fifth pair", ((0, 1), (1, 1), (2, 1), (3, 1), (4, 1))),
    ("six pairs", ((0, 1), (1, 1), (2, 1), (3, 1), (4, 1), (5, 1))),
    ("a house twice in a row", ((0, 1), (0, 2))),
    ("a house twice with one pair", ((3, 2), (3, 2))),
    ("a house twice, first and last", ((2, 1), (0, 1), (1, 1), (2, 5))),
    ("a house below 0", ((-1, 1),)),
    ("a later house below 0", ((0, 1), (-1, 1))),
    ("a house above 5", ((6, 1),)),
    ("a later house above 5", ((0, 1), (1, 1), (6, 1))),
    ("a line of nought", ((0, 0),)),
    ("a line below 0", ((0, -3),)),
    ("a later line below 1", ((0, 1), (1, 0))),
    ("a line above 20", ((0, 21),)),
    ("a later line above 20", ((0, 1), (1, 20), (2, 21))),
)


class PartsTest(unittest.TestCase):

    def test_one_house_bears_all(self):
        for crowns in range(25):
            self.assertEqual(parts(((4, 7),), crowns), [crowns])

    def test_nought_falls_to_nobody(self):
        for lines in GOOD_LINES:
            self.assertEqual(parts(lines, 0), [0] * len(lines))

    def test_the_first_crown_falls_to_the_greatest_line(self):
        self.assertEqual(parts(((0, 1), (1, 2)), 1), [0, 1])
        self.assertEqual(parts(((4, 20), (2, 1)), 1), [1, 0])
        self.assertEqual(parts(((0, 3), (1, 2), (2, 4)), 1), [0, 0, 1])

    def test_a_full_bill(self):
        self.assertEqual(parts(((0, 1), (1, 2)), 24), [8, 16])
        self.assertEqual(parts(((0, 3), (1, 2), (2, 1)), 24), [12, 8, 4])
        self.assertEqual(parts(((3, 1), (2, 1), (1, 1), (0, 1)), 24), [6, 6, 6, 6])
        self.assertEqual(parts(((0, 20), (2, 1)), 24), [23, 1])

    def test_of_same_fractions_the_first_in_the_lines_bears(self):
        # Ahead of the second crown both stand at 1: 1/1 and 2/2.
        self.assertEqual(parts(((0, 1), (1, 2)), 2), [1, 1])
        self.assertEqual(parts(((1, 2), (0, 1)), 2), [2, 0])
        self.assertEqual(parts(((3, 4), (1, 4)), 1), [1, 0])
        self.assertEqual(parts(((5, 1), (2, 1), (1, 1), (0, 1)), 3), [1, 1, 1, 0])

    def test_the_house_number_has_no_weight(self):
        self.assertEqual(parts(((5, 1), (0, 1)), 1), [1, 0])
        self.assertEqual(parts(((0, 1), (5, 1)), 1), [1, 0])

    def test_like_the_words_for_all_bills(self):
        for lines in GOOD_LINES:
            for crowns in range(25):
                with self.subTest(lines=lines, crowns=crowns):
                    self.assertEqual(parts(lines, crowns), list(told_parts(lines, crowns)))

    def test_like_the_words_for_all_pairs_of_lines(self):
        for one, other in itertools.product(range(1, 21), repeat=2):
            lines = ((1, one), (0, other))
            for crowns in (1, 2, 5, 11, 24):
                self.assertEqual(parts(lines, crowns), list(told_parts(lines, crowns)))

    def test_the_parts_sum_to_the_bill(self):
        for lines in GOOD_LINES:
            for crowns in range(25):
                self.assertEqual(sum(parts(lines, crowns)), crowns)

    def test_a_greater_bill_gives_nobody_fewer(self):
        for lines in GOOD_LINES:
            for crowns in range(24):
                for less, more in zip(parts(lines, crowns), parts(lines, crowns + 1)):
                    self.assertLessEqual(less, more)

    def test_lines_refused(self):
        for name, lines in BAD_LINES:
            with self.subTest(name):
                self.assertRaises(BadLines, parts, lines, 3)

    def test_crowns_refused(self):
        for crowns in (-24, -1, 25, 26, 1000):
            self.assertRaises(BadCrowns, parts, ((0, 1), (1, 2)), crowns)

    def test_both_wrong_is_bad_lines(self):
        for name, lines in BAD_LINES:
            for crowns in (-1, 25):
                with self.subTest(name):
                    self.assertRaises(BadLines, parts, lines, crowns)

    def test_a_told_list_is_a_new_one(self):
        lines = ((0, 3), (1, 2), (2, 1))
        told = parts(lines, 6)
        told[0] = 99
        told.append(7)
        self.assertEqual(parts(lines, 6), [3, 2, 1])
        self.assertEqual(parts(lines, 7), [4, 2, 1])
        self.assertEqual(lines, ((0, 3), (1, 2), (2, 1)))
        self.assertIs(type(told), list)


class BearerTest(unittest.TestCase):

    def test_crown_by_crown(self):
        self.assertEqual([bearer(((0, 1), (1, 2)), crown) for crown in range(1, 7)], [1, 0, 1, 1, 0, 1])
        self.assertEqual([bearer(((1, 2), (0, 1)), crown) for crown in range(1, 7)], [1, 1, 0, 1, 1, 0])
        self.assertEqual([bearer(((5, 3), (4, 2), (2, 1)), crown) for crown in range(1, 7)], [5, 4, 5, 5, 4, 2])

    def test_of_same_fractions_the_first_in_the_lines_bears(self):
        lines = ((3, 1), (2, 1), (5, 1), (0, 1))
        self.assertEqual([bearer(lines, crown) for crown in range(1, 9)], [3, 2, 5, 0, 3, 2, 5, 0])

    def test_one_house_bears_all(self):
        for crown in range(1, 25):
            self.assertEqual(bearer(((4, 7),), crown), 4)

    def test_the_bearer_is_whose_part_grows_by_one(self):
        for lines in GOOD_LINES:
            for crown in range(1, 25):
                with self.subTest(lines=lines, crown=crown):
                    ahead, behind = parts(lines, crown - 1), parts(lines, crown)
                    grown = [after - before for before, after in zip(ahead, behind)]
                    self.assertEqual(sorted(grown), [0] * (len(lines) - 1) + [1])
                    self.assertEqual(bearer(lines, crown), lines[grown.index(1)][0])

    def test_lines_refused(self):
        for name, lines in BAD_LINES:
            with self.subTest(name):
                self.assertRaises(BadLines, bearer, lines, 1)

    def test_crown_refused(self):
        for crown in (-1, 0, 25, 26, 1000):
            self.assertRaises(BadCrowns, bearer, ((0, 1), (1, 2)), crown)

    def test_both_wrong_is_bad_lines(self):
        for name, lines in BAD_LINES:
            for crown in (0, 25):
                with self.subTest(name):
                    self.assertRaises(BadLines, bearer, lines, crown)


if __name__ == "__main__":
    unittest.main()
