"""[12]: roads to covers, and the covers that hang on a house; with [1] as far as it speaks of this."""

import itertools
import unittest

from helper import (
    CHAIN, IDLE, LONG_RING, LOOP, NAMED, NO_COVER, great_tables, small_tables, table, told_least, told_parts, with_loss,
)
from ringcede.errors import NoCover, NoHouse
from ringcede.roads import hangs, road

# A way of three covers from house 0 to house 3, and a way of two that house 2 opens where it bears.
TWO_WAYS = (
    4,
    [
        (0, "share", 100, 5, ((1, 1), (2, 1))),
        (1, "share", 100, 5, ((2, 1),)),
        (2, "share", 100, 9, ((3, 1),)),
        (3, "layer", 0, 9, ((1, 1),)),
    ],
    [4, 0, 0, 0],
)


def is_road(plain, account, covers):
    """By the words of [12], the end of the road aside."""
    if not all(account[cover] > 0 for cover in covers) or plain[2][plain[1][covers[0]][0]] == 0:
        return False
    for ahead, cover in zip(covers, covers[1:]):
        lines = plain[1][ahead][4]
        bearing = [house for (house, line), crowns in zip(lines, told_parts(lines, account[ahead])) if crowns]
        if plain[1][cover][0] not in bearing:
            return False
    return True


def shortest(plain, account, cover):
    """How many covers the shortest road to the cover has, by trying all lists, the shorter ones first."""
    for many in range(len(account)):
        for ahead in itertools.product(range(len(account)), repeat=many):
            if is_road(plain, account, list(ahead) + [cover]):
                return many + 1


class RoadTest(unittest.TestCase):

    def assert_road(self, told, plain, cover):
        ground = table(plain)
        with self.subTest(plain=plain, cover=cover):
            answer = road(ground, cover)
            self.assertEqual(answer, told)
            if told is not None:
                self.assertIs(type(answer), list)
                answer.append(7)
                answer[0] = 99
            self.assertEqual(road(ground, cover), told)
            self.assertEqual((ground.houses(), ground.covers(), ground.losses()), plain)

    def test_by_hand(self):
        self.assert_road([0], CHAIN, 0)
        self.assert_road([0, 1], CHAIN, 1)
        self.assert_road([0], TWO_WAYS, 0)
        self.assert_road([0, 1], TWO_WAYS, 1)
        self.assert_road([0, 2], TWO_WAYS, 2)
        self.assert_road([0, 2, 3], TWO_WAYS, 3)
        # Something befell house 2 too: the road begins there.
        self.assert_road([2], with_loss(TWO_WAYS, 2, 1), 2)
        self.assert_road([2, 3], with_loss(TWO_WAYS, 2, 1), 3)
        # Of one crown none falls to house 2, so the longer way is the only one.
        self.assert_road([0, 1, 2], with_loss(TWO_WAYS, 0, 1), 2)
        self.assert_road([0, 1, 2, 3], with_loss(TWO_WAYS, 0, 1), 3)

    def test_round_a_whole_ring(self):
        # The covers of this ring are numbered from house 5 down to house 0, to which a crown befell.
        for cover in range(6):
            self.assert_road(list(range(5, cover - 1, -1)), LONG_RING, cover)

    def test_none_where_the_bill_is_nought(self):
        for plain in (IDLE, with_loss(CHAIN, 0, 0), with_loss(LOOP, 0, 0)):
            for cover, bill in enumerate(told_least(plain)):
                if bill == 0:
                    self.assert_road(None, plain, cover)
        self.assert_road(None, with_loss(CHAIN, 0, 3), 1)
        self.assert_road(None, (2, [(0, "share", 100, 0, ((1, 1),))], [9, 0]), 0)

    def test_as_short_as_any(self):
        lengths = set()
        for plain in small_tables() + [CHAIN, LOOP, TWO_WAYS]:
            ground, account = table(plain), told_least(plain)
            for cover, bill in enumerate(account):
                told = road(ground, cover)
                with self.subTest(plain=plain, cover=cover, told=told):
                    if bill == 0:
                        self.assertIsNone(told)
                    else:
                        self.assertEqual(told[-1], cover)
                        self.assertTrue(is_road(plain, account, told))
                        self.assertEqual(len(told), shortest(plain, account, cover))
                        lengths.add(len(told))
        self.assertLessEqual({1, 2, 3}, lengths)

    def test_roads_of_great_tables(self):
        for plain in great_tables():
            account = told_least(plain)
            for cover, bill in enumerate(account):
                told = road(table(plain), cover)
                with self.subTest(plain=plain, cover=cover, told=told):
                    self.assertEqual(told is None, bill == 0)
                    if told is not None:
                        self.assertEqual(told[-1], cover)
                        self.assertTrue(is_road(plain, account, told))
                        self.assertEqual(len(set(told)), len(told))

    def test_cover_refused(self):
        for plain in NAMED:
            many = len(plain[1])
            for cover in (-many - 1, -many or -1, -1, many, many + 1, 99):
                self.assertRaises(NoCover, road, table(plain), cover)


class HangsTest(unittest.TestCase):

    def assert_hangs(self, told, plain, house):
        ground = table(plain)
        with self.subTest(plain=plain, house=house):
            answer = hangs(ground, house)
            self.assertEqual(answer, told)
            self.assertIs(type(answer), list)
            answer.append(7)
            self.assertEqual(hangs(ground, house), told)
            self.assertEqual((ground.houses(), ground.covers(), ground.losses()), plain)

    def test_by_hand(self):
        for house, told in ((0, [0, 1]), (1, []), (2, [])):
            self.assert_hangs(told, CHAIN, house)
        # House 1 has enough by itself for the layer to be full, so only the share hangs on house 0.
        self.assert_hangs([0], with_loss(CHAIN, 1, 9), 0)
        self.assert_hangs([], with_loss(CHAIN, 1, 9), 1)
        self.assert_hangs([1], with_loss(with_loss(CHAIN, 1, 9), 0, 2), 1)
        self.assert_hangs([0, 1, 2, 3, 4, 5], LONG_RING, 0)
        self.assert_hangs([], NO_COVER, 0)

    def test_just_the_covers_with_other_bills(self):
        hanging = 0
        for plain in small_tables() + great_tables():
            for house in range(plain[0]):
                bills, spared = told_least(plain), told_least(with_loss(plain, house, 0))
                told = [cover for cover in range(len(bills)) if bills[cover] != spared[cover]]
                hanging += len(told)
                self.assert_hangs(told, plain, house)
        self.assertGreater(hanging, 200)

    def test_a_house_that_nothing_befell(self):
        for plain in great_tables():
            for house in range(plain[0]):
                self.assert_hangs([], with_loss(plain, house, 0), house)

    def test_house_refused(self):
        for plain in NAMED:
            for house in (-plain[0] - 1, -plain[0], -1, plain[0], plain[0] + 1, 99):
                self.assertRaises(NoHouse, hangs, table(plain), house)


if __name__ == "__main__":
    unittest.main()
