"""[6], [7] and [9]: the least account, and steps that show an account; with [1] as far as it speaks of this."""

import itertools
import random
import unittest

from helper import (
    CHAIN, IDLE, LONG_RING, LOOP, NAMED, NO_COVER, agreeing, all_accounts, bad_accounts, great_tables, lies_below,
    small_tables, table, told_asked,
)
from ringcede.errors import BadAccount
from ringcede.least import least, shows, steps
from ringcede.rounds import Rounds


def go_round(rounds, choose):
    """Asks waiting covers as they are chosen till none waits: each asking makes one of ten bills greater."""
    for asking in range(10 * 24):
        if rounds.waiting():
            rounds.ask(choose(rounds.waiting()))
    return rounds.account()


class LeastTest(unittest.TestCase):

    def test_by_hand(self):
        for plain, account in (
            (CHAIN, [4, 3]), (LOOP, [6, 3, 2]), (IDLE, [0, 0, 0]), (LONG_RING, [24] * 6), (NO_COVER, []),
        ):
            told = least(table(plain))
            self.assertEqual(told, account)
            self.assertIs(type(told), list)

    def test_a_ring_that_comes_to_rest_by_rounding(self):
        ring = [(0, "share", 50, 24, ((1, 1),)), (1, "share", 50, 24, ((0, 1),))]
        # 16 reach the first: 8; of them 4 come back: 10; then 5: 10 again.
        self.assertEqual(least(table((2, ring, [16, 0]))), [10, 5])
        self.assertEqual(least(table((2, ring, [1, 0]))), [0, 0])

    def test_agrees_and_lies_below_every_account_that_agrees(self):
        spinning = 0
        for plain in small_tables():
            told, others = least(table(plain)), agreeing(plain)
            spinning += len(others) > 1
            with self.subTest(plain=plain):
                self.assertIn(told, others)
                for other in others:
                    self.assertTrue(lies_below(told, other))
        self.assertGreater(spinning, 10)

    def test_agrees_in_great_tables(self):
        for plain in great_tables():
            told = least(table(plain))
            self.assertEqual(told_asked(plain, told), told)

    def test_bills_that_go_round_in_any_order_come_to_it(self):
        chance = random.Random(3)
        for plain in great_tables():
            ground = table(plain)
            told = least(ground)
            for choose in (min, max, chance.choice, chance.choice):
                rounds = Rounds(ground)
                with self.subTest(plain=plain):
                    self.assertEqual(go_round(rounds, choose), told)
                    self.assertEqual(rounds.waiting(), [])

    def test_round_by_round_in_every_order(self):
        for plain in (CHAIN, LOOP, IDLE):
            for order in itertools.permutations(range(len(plain[1]))):
                rounds = Rounds(table(plain))
                for cover in order * 24:
                    rounds.ask(cover)
                self.assertEqual(rounds.waiting(), [])
                self.assertEqual(rounds.account(), least(table(plain)))

    def test_nothing_lost_nothing_asked(self):
        for houses, covers, losses in great_tables():
            self.assertEqual(least(table((houses, covers, [0] * houses))), [0] * len(covers))

    def test_told_lists_are_new_ones(self):
        ground = table(LOOP)
        least(ground).append(7)
        least(ground)[0] = 1
        self.assertEqual(least(ground), [6, 3, 2])
        self.assertEqual((ground.houses(), ground.covers(), ground.losses()), LOOP)


class StepsTest(unittest.TestCase):

    def test_each_stands_and_they_come_to_the_least_account(self):
        for plain in small_tables() + great_tables():
            ground = table(plain)
            told, walked = steps(ground), [0] * len(plain[1])
            self.assertIs(type(told), list)
            with self.subTest(plain=plain, steps=told):
                for step in told:
                    self.assertIs(type(step), tuple)
                    cover, bill = step
                    self.assertIn(cover, range(len(walked)))
                    self.assertGreater(bill, walked[cover])
                    self.assertLessEqual(bill, told_asked(plain, walked)[cover])
                    walked[cover] = bill
                self.assertEqual(walked, least(ground))
                self.assertIs(shows(ground, told, least(ground)), True)

    def test_none_where_nothing_is_asked(self):
        self.assertEqual(steps(table(IDLE)), [])
        self.assertEqual(steps(table(NO_COVER)), [])

    def test_told_lists_are_new_ones(self):
        ground = table(LOOP)
        told = steps(ground)
        steps(ground).append((0, 1))
        steps(ground).clear()
        self.assertEqual(steps(ground), told)


class ShowsTest(unittest.TestCase):

    def assert_shows(self, told, plain, given, account):
        ground, given_then, account_then = table(plain), list(given), list(account)
        with self.subTest(plain=plain, steps=given, account=account):
            self.assertIs(shows(ground, given, account), told)
            self.assertEqual((given, account), (given_then, account_then))
            self.assertEqual((ground.houses(), ground.covers(), ground.losses()), plain)

    def test_steps_by_hand(self):
        self.assert_shows(True, CHAIN, [(0, 4), (1, 3)], [4, 3])
        self.assert_shows(True, CHAIN, [(0, 1), (0, 3), (1, 2), (0, 4), (1, 3)], [4, 3])
        self.assert_shows(True, LOOP, [(1, 2), (0, 5), (2, 2), (1, 3), (0, 6)], [6, 3, 2])

    def test_accounts_on_the_way_are_shown_too(self):
        self.assert_shows(True, CHAIN, [(0, 1)], [1, 0])
        self.assert_shows(True, CHAIN, [(0, 4), (1, 1)], [4, 1])
        self.assert_shows(True, LOOP, [(1, 2), (0, 5)], [5, 2, 0])

    def test_no_steps(self):
        for plain in NAMED:
            self.assert_shows(True, plain, [], [0] * len(plain[1]))
        self.assert_shows(False, CHAIN, [], [1, 0])
        self.assert_shows(False, CHAIN, [], [0, 1])
        self.assert_shows(False, CHAIN, [], [4, 3])

    def test_another_account(self):
        for account in all_accounts(CHAIN):
            self.assert_shows(account == [4, 3], CHAIN, [(0, 4), (1, 3)], account)
        for account in all_accounts(LOOP):
            self.assert_shows(account == [6, 3, 2], LOOP, steps(table(LOOP)), account)

    def test_a_bill_too_great(self):
        self.assert_shows(False, CHAIN, [(0, 5)], [5, 0])
        self.assert_shows(False, CHAIN, [(0, 4), (1, 4)], [4, 3])
        self.assert_shows(False, CHAIN, [(1, 1)], [0, 1])
        # Behind the other step it would stand, but not ahead of it.
        self.assert_shows(False, CHAIN, [(1, 3), (0, 4)], [4, 3])
        self.assert_shows(False, LOOP, [(0, 6), (1, 2), (2, 2)], [6, 2, 2])
        self.assert_shows(False, IDLE, [(0, 1), (1, 1), (2, 1)], [1, 1, 1])

    def test_a_bill_not_greater_than_the_one_there(self):
        self.assert_shows(False, CHAIN, [(0, 0)], [0, 0])
        self.assert_shows(False, CHAIN, [(0, -1)], [0, 0])
        self.assert_shows(False, CHAIN, [(0, 4), (0, 3)], [3, 0])
        self.assert_shows(False, CHAIN, [(0, 4), (0, 3), (0, 4)], [4, 0])
        self.assert_shows(False, CHAIN, [(1, 0), (0, 4), (1, 3)], [4, 3])

    def test_a_cover_that_there_is_not(self):
        for cover in (-3, -2, -1, 2, 3):
            self.assert_shows(False, CHAIN, [(cover, 1)], [0, 0])
        self.assert_shows(False, CHAIN, [(-2, 4)], [4, 0])
        self.assert_shows(False, CHAIN, [(0, 4), (-1, 3)], [4, 3])
        self.assert_shows(False, CHAIN, [(0, 4), (1, 3), (2, 1)], [4, 3])
        self.assert_shows(False, NO_COVER, [(0, 1)], [])

    def test_a_step_twice_or_left_out(self):
        for plain in (CHAIN, LOOP, LONG_RING):
            told, account = steps(table(plain)), least(table(plain))
            for place in range(len(told)):
                self.assert_shows(False, plain, told[:place + 1] + told[place:], account)
                self.assert_shows(False, plain, told + [told[place]], account)
            self.assert_shows(False, plain, told[:-1], account)
        self.assert_shows(False, CHAIN, [(1, 3)], [4, 3])
        self.assert_shows(False, CHAIN, [(0, 4)], [4, 3])
        self.assert_shows(False, LOOP, [(1, 2), (0, 5), (1, 3), (0, 6)], [6, 3, 2])

    def test_no_account_that_is_enough_has_less_than_one_that_is_shown(self):
        for plain in small_tables():
            told = least(table(plain))
            for account in all_accounts(plain):
                if lies_below(told_asked(plain, account), account):
                    self.assertTrue(lies_below(told, account))

    def test_accounts_refused(self):
        for plain in NAMED:
            for account in bad_accounts(plain):
                for given in ([], steps(table(plain)), [(-1, 0)], [(99, 99)], [(0, 99)]):
                    self.assertRaises(BadAccount, shows, table(plain), given, account)


if __name__ == "__main__":
    unittest.main()
