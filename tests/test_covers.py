"""[3]: what a cover is, and what it asks."""

import unittest

from ringcede.covers import is_cover, take
from ringcede.errors import BadCover, BadCrowns

# Kind, by and most, of which no cover has the one that is named.
BAD_MEASURES = (
    ("another kind", "stop", 10, 10),
    ("a kind with a great letter", "Share", 10, 10),
    ("no kind", "", 10, 10),
    ("a share of nought", "share", 0, 10),
    ("a share below 0", "share", -1, 10),
    ("a share above 100", "share", 101, 10),
    ("a share with a layer's by", "share", 200, 10),
    ("a layer below 0", "layer", -1, 10),
    ("a layer above 200", "layer", 201, 10),
    ("a share's most below 0", "share", 10, -1),
    ("a share's most above 24", "share", 10, 25),
    ("a layer's most below 0", "layer", 10, -1),
    ("a layer's most above 24", "layer", 10, 25),
)


class IsCoverTest(unittest.TestCase):

    def assert_covers(self, told, houses, *covers):
        for cover in covers:
            with self.subTest(houses=houses, cover=cover):
                self.assertIs(is_cover(houses, cover), told)

    def test_ordinary_rows(self):
        self.assert_covers(True, 3, (0, "share", 50, 10, ((1, 1), (2, 3))), (2, "layer", 20, 12, ((0, 5),)))

    def test_rows_at_each_bound(self):
        for by in (1, 100):
            self.assert_covers(True, 2, (0, "share", by, 10, ((1, 1),)))
        for by in (0, 101, 200):
            self.assert_covers(True, 2, (0, "layer", by, 10, ((1, 1),)))
        for most in (0, 24):
            self.assert_covers(True, 2, (0, "share", 50, most, ((1, 1),)), (1, "layer", 50, most, ((0, 1),)))
        for line in (1, 20):
            self.assert_covers(True, 2, (0, "share", 50, 10, ((1, line),)))
        self.assert_covers(True, 6, (5, "share", 50, 10, ((0, 1), (1, 1), (2, 1), (3, 1))))
        self.assert_covers(True, 6, (0, "share", 50, 10, ((5, 1), (4, 20))))

    def test_a_thing_more_or_less(self):
        self.assert_covers(
            False, 3, (), (0,), (0, "share", 50, 10), ("share", 50, 10, ((1, 1),)),
            (0, "share", 50, 10, ((1, 1),), 7), (0, "share", 50, 10, 60, 0, 99, ((1, 1),)),
        )

    def test_another_kind_or_a_by_or_most_beyond_its_bound(self):
        for name, kind, by, most in BAD_MEASURES:
            with self.subTest(name):
                self.assertIs(is_cover(2, (0, kind, by, most, ((1, 1),))), False)

    def test_lines_that_are_none(self):
        for lines in (
            (), ((1, 1), (2, 1), (3, 1), (4, 1), (5, 1)), ((1, 1), (1, 2)), ((-1, 1),), ((1, 1), (-1, 1)),
            ((6, 1),), ((1, 0),), ((1, 21),), ((1, 1), (2, -1)),
        ):
            self.assert_covers(False, 6, (0, "share", 50, 10, lines))

    def test_a_house_that_there_is_not(self):
        lines = ((1, 1),)
        self.assert_covers(False, 3, (-1, "share", 50, 10, lines), (3, "share", 50, 10, lines))
        self.assert_covers(False, 6, (6, "layer", 50, 10, lines))
        self.assert_covers(True, 3, (2, "share", 50, 10, lines))

    def test_a_signing_house_that_there_is_not(self):
        self.assert_covers(False, 3, (0, "share", 50, 10, ((3, 1),)), (0, "layer", 50, 10, ((1, 1), (3, 1))))
        self.assert_covers(False, 2, (0, "share", 50, 10, ((5, 1), (1, 1))))
        self.assert_covers(True, 4, (0, "share", 50, 10, ((3, 1),)), (0, "layer", 50, 10, ((1, 1), (3, 1))))

    def test_the_covered_house_among_its_own_lines(self):
        self.assert_covers(False, 3, (0, "share", 50, 10, ((0, 1),)), (1, "layer", 50, 10, ((0, 1), (2, 3), (1, 1))))

    def test_among_one_house_alone(self):
        for lines in ((), ((0, 1),), ((1, 1),)):
            self.assert_covers(False, 1, (0, "share", 50, 10, lines))


class TakeTest(unittest.TestCase):

    def test_shares_are_rounded_down(self):
        for by, reach, told in (
            (50, 7, 3), (50, 8, 4), (33, 10, 3), (1, 99, 0), (1, 100, 1), (1, 199, 1), (1, 200, 2),
            (99, 1, 0), (99, 20, 19), (100, 1, 1), (100, 17, 17),
        ):
            self.assertEqual(take("share", by, 24, reach), told)

    def test_layers_below_at_and_above_by(self):
        for by, reach, told in (
            (10, 0, 0), (10, 9, 0), (10, 10, 0), (10, 11, 1), (10, 30, 20), (0, 1, 1), (0, 24, 24),
            (200, 199, 0), (200, 200, 0), (200, 201, 1), (200, 224, 24),
        ):
            self.assertEqual(take("layer", by, 24, reach), told)

    def test_neither_asks_more_than_its_most(self):
        for kind, by, most, reach, told in (
            ("share", 50, 5, 9, 4), ("share", 50, 5, 10, 5), ("share", 50, 5, 12, 5), ("share", 100, 24, 25, 24),
            ("share", 1, 24, 99999, 24), ("share", 100, 0, 99999, 0), ("layer", 10, 5, 14, 4),
            ("layer", 10, 5, 15, 5), ("layer", 10, 5, 16, 5), ("layer", 200, 24, 225, 24),
            ("layer", 0, 24, 99999, 24), ("layer", 0, 0, 99999, 0),
        ):
            self.assertEqual(take(kind, by, most, reach), told)

    def test_of_nought_nothing_is_asked(self):
        for kind, by in (("share", 1), ("share", 100), ("layer", 0), ("layer", 200)):
            self.assertEqual(take(kind, by, 24, 0), 0)

    def test_measures_refused(self):
        for name, kind, by, most in BAD_MEASURES:
            with self.subTest(name):
                self.assertRaises(BadCover, take, kind, by, most, 50)

    def test_reach_refused(self):
        for reach in (-100, -1, 100000, 100001):
            self.assertRaises(BadCrowns, take, "share", 50, 10, reach)
            self.assertRaises(BadCrowns, take, "layer", 0, 0, reach)

    def test_both_wrong_is_bad_cover(self):
        for name, kind, by, most in BAD_MEASURES:
            for reach in (-1, 100000):
                with self.subTest(name):
                    self.assertRaises(BadCover, take, kind, by, most, reach)


if __name__ == "__main__":
    unittest.main()
