"""[11]: what houses keep, and where one crown more falls; with [1] as far as it speaks of this."""

import unittest

from helper import (
    CHAIN, IDLE, LONG_RING, LOOP, NAMED, NO_COVER, agreeing, all_accounts, bad_accounts, great_tables, small_tables,
    table, told_asked, told_kept, told_least, with_loss,
)
from ringcede.bearing import falls, kept
from ringcede.errors import BadAccount, BadLosses, Disagrees, NoHouse
from ringcede.greatest import greatest
from ringcede.least import least


class KeptTest(unittest.TestCase):

    def assert_keeps(self, told, plain, account):
        ground, then = table(plain), list(account)
        with self.subTest(plain=plain, account=account):
            answer = kept(ground, account)
            self.assertEqual(answer, told)
            self.assertIs(type(answer), list)
            self.assertGreaterEqual(min(answer), 0)
            self.assertEqual(sum(answer), sum(plain[2]))
            answer.append(7)
            answer[0] = 99
            self.assertEqual(kept(ground, account), told)
            self.assertEqual(account, then)
            self.assertEqual((ground.houses(), ground.covers(), ground.losses()), plain)

    def test_by_hand(self):
        self.assert_keeps([5, 1, 3], CHAIN, [4, 3])
        # Of a bill of 6 the lines ((1, 1), (2, 2)) bear 2 and 4; house 0 bears 12 and hands 9 on.
        self.assert_keeps([3, 0, 9], LOOP, [6, 3, 2])
        self.assert_keeps([7], NO_COVER, [])
        for turn in range(4):
            self.assert_keeps([0, 0, 0], IDLE, [turn] * 3)
        self.assert_keeps([1, 0, 0, 0, 0, 0], LONG_RING, [24] * 6)

    def test_by_the_least_and_the_greatest(self):
        for plain in great_tables():
            for account in (least(table(plain)), greatest(table(plain))):
                self.assert_keeps(told_kept(plain, account), plain, account)

    def test_by_every_account_that_agrees_of_small_tables(self):
        others = 0
        for plain in small_tables():
            for account in agreeing(plain):
                others += account not in (least(table(plain)), greatest(table(plain)))
                self.assert_keeps(told_kept(plain, account), plain, account)
        self.assertGreater(others, 5)

    def test_disagreeing_accounts_refused(self):
        for plain in (CHAIN, LOOP, IDLE):
            for account in all_accounts(plain):
                if told_asked(plain, account) != account:
                    then = list(account)
                    self.assertRaises(Disagrees, kept, table(plain), account)
                    self.assertEqual(account, then)

    def test_bad_accounts_refused_first(self):
        for plain in NAMED:
            for account in bad_accounts(plain):
                self.assertRaises(BadAccount, kept, table(plain), account)
        for account in ([0, 4], [5, 3, 0], [3], [-1, 2]):
            self.assertRaises(BadAccount, kept, table(CHAIN), account)


class FallsTest(unittest.TestCase):

    def assert_one_keeps_one_more(self, plain, house):
        ground, richer = table(plain), with_loss(plain, house, plain[2][house] + 1)
        before = told_kept(plain, told_least(plain))
        after = told_kept(richer, told_least(richer))
        told = falls(ground, house)
        with self.subTest(plain=plain, house=house):
            self.assertIs(type(told), int)
            more = [now - then for now, then in zip(after, before)]
            self.assertEqual(more, [int(keeper == told) for keeper in range(plain[0])])
            self.assertEqual((ground.houses(), ground.covers(), ground.losses()), plain)
        return told

    def test_by_hand(self):
        # The tenth crown makes half of 10, of which house 1 hands on no more than 3 already.
        self.assertEqual([falls(table(CHAIN), house) for house in range(3)], [1, 1, 2])
        self.assertEqual(falls(table(with_loss(CHAIN, 0, 8)), 0), 0)
        self.assertEqual(falls(table(with_loss(CHAIN, 0, 5)), 0), 2)
        self.assertEqual(falls(table(NO_COVER), 0), 0)
        # All bills are full already, so each house keeps what comes.
        self.assertEqual([falls(table(LONG_RING), house) for house in range(6)], [0, 1, 2, 3, 4, 5])

    def test_at_each_house(self):
        elsewhere = 0
        for plain in small_tables() + great_tables():
            for house in [house for house in range(plain[0]) if plain[2][house] < 9999]:
                elsewhere += self.assert_one_keeps_one_more(plain, house) != house
        self.assertGreater(elsewhere, 100)

    def test_crown_by_crown(self):
        for crowns in range(60):
            for house in range(3):
                self.assert_one_keeps_one_more(with_loss(LOOP, house, crowns), house)

    def test_house_refused(self):
        for plain in NAMED:
            for house in (-plain[0] - 1, -plain[0], -2, -1, plain[0], plain[0] + 1, 99):
                self.assertRaises(NoHouse, falls, table(plain), house)
                full = (plain[0], plain[1], [9999] * plain[0])
                self.assertRaises(NoHouse, falls, table(full), house)

    def test_losses_refused_of_that_house_alone(self):
        for plain in NAMED:
            for house in range(plain[0]):
                full = with_loss(plain, house, 9999)
                self.assertRaises(BadLosses, falls, table(full), house)
                for other in range(plain[0]):
                    if other != house:
                        self.assert_one_keeps_one_more(with_loss(full, other, 5), other)
                self.assert_one_keeps_one_more(with_loss(plain, house, 9998), house)


if __name__ == "__main__":
    unittest.main()
