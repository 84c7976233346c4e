"""[8]: the greatest account and the spin; with [1] as far as it speaks of this."""

import unittest

from helper import (
    CHAIN, IDLE, LONG_RING, LOOP, NO_COVER, agreeing, great_tables, lies_below, made_tables, small_tables, table,
    told_asked,
)
from ringcede.greatest import greatest, spin
from ringcede.least import least


def whole_ring(mosts):
    """A ring of whole shares, one for each house, where nobody lost anything."""
    houses = len(mosts)
    covers = [(house, "share", 100, most, (((house + 1) % houses, 1),)) for house, most in enumerate(mosts)]
    return houses, covers, [0] * houses


def without_rings(plain):
    """The table without those covers that are handed on to a house with a lesser number."""
    houses, covers, losses = plain
    return houses, [cover for cover in covers if all(house > cover[0] for house, line in cover[4])], losses


class GreatestTest(unittest.TestCase):

    def test_by_hand(self):
        for plain, account in (
            (CHAIN, [4, 3]), (LOOP, [6, 3, 2]), (IDLE, [3, 3, 3]), (LONG_RING, [24] * 6), (NO_COVER, []),
        ):
            told = greatest(table(plain))
            self.assertEqual(told, account)
            self.assertIs(type(told), list)

    def test_agrees_and_every_account_that_agrees_lies_below_it(self):
        for plain in small_tables():
            told, others = greatest(table(plain)), agreeing(plain)
            with self.subTest(plain=plain):
                self.assertIn(told, others)
                for other in others:
                    self.assertTrue(lies_below(other, told))

    def test_agrees_in_great_tables(self):
        for plain in great_tables():
            told = greatest(table(plain))
            self.assertEqual(told_asked(plain, told), told)
            self.assertTrue(lies_below(least(table(plain)), told))

    def test_told_lists_are_new_ones(self):
        full = (2, [(0, "share", 100, 5, ((1, 1),))], [9, 0])
        for plain in (IDLE, full):
            ground = table(plain)
            told = greatest(ground)
            greatest(ground).append(7)
            greatest(ground)[0] = 1
            self.assertEqual(greatest(ground), told)
            self.assertEqual((ground.houses(), ground.covers(), ground.losses()), plain)
            self.assertEqual(ground.mosts(), [cover[3] for cover in plain[1]])


class SpinTest(unittest.TestCase):

    def test_by_hand(self):
        for plain, bills in (
            (CHAIN, [0, 0]), (LOOP, [0, 0, 0]), (IDLE, [3, 3, 3]), (LONG_RING, [0] * 6), (NO_COVER, []),
        ):
            told = spin(table(plain))
            self.assertEqual(told, bills)
            self.assertIs(type(told), list)

    def test_a_ring_that_asks_of_itself_beside_a_loss(self):
        ring = [(0, "layer", 2, 5, ((1, 1),)), (1, "layer", 0, 5, ((0, 1),)), (0, "share", 50, 9, ((2, 1),))]
        # Of 2 crowns nothing is above 2, so the first cover asks nothing; by the greatest account 5
        # more come to house 0, of 7 crowns 5 are above 2, and they are what house 1 hands back.
        ground = table((3, ring, [2, 0, 0]))
        self.assertEqual(least(ground), [0, 0, 1])
        self.assertEqual(greatest(ground), [5, 5, 1])
        self.assertEqual(spin(ground), [5, 5, 0])

    def test_greatest_less_least(self):
        spinning = 0
        for plain in small_tables():
            others, told = agreeing(plain), spin(table(plain))
            spinning += any(told)
            self.assertEqual(told, [max(bills) - min(bills) for bills in zip(*others)])
        self.assertGreater(spinning, 10)
        for plain in great_tables():
            pairs = zip(greatest(table(plain)), least(table(plain)), strict=True)
            self.assertEqual(spin(table(plain)), [high - low for high, low in pairs])

    def test_nought_where_no_ring_is(self):
        tried = 0
        for plain in made_tables(200, 6, 10, 24):
            houses, covers, losses = without_rings(plain)
            tried += len(covers) > 1
            self.assertEqual(spin(table((houses, covers, losses))), [0] * len(covers))
        self.assertGreater(tried, 20)

    def test_an_idle_ring_of_whole_shares(self):
        for mosts in ((5, 3), (3, 5), (24, 24, 24), (7, 0, 9), (1, 2, 3, 4, 5, 6), (24, 20, 22, 21), (4, 9, 4)):
            ground = table(whole_ring(mosts))
            self.assertEqual(least(ground), [0] * len(mosts))
            self.assertEqual(greatest(ground), [min(mosts)] * len(mosts))
            self.assertEqual(spin(ground), [min(mosts)] * len(mosts))

    def test_told_lists_are_new_ones(self):
        ground = table(IDLE)
        spin(ground).append(7)
        spin(ground)[0] = 1
        self.assertEqual(spin(ground), [3, 3, 3])
        self.assertEqual((ground.houses(), ground.covers(), ground.losses()), IDLE)


if __name__ == "__main__":
    unittest.main()
