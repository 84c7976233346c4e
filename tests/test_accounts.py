"""[4], [6] and [10]: accounts that agree, and the nearest ones; with [1] as far as it speaks of this."""

import unittest

from helper import (
    CHAIN, IDLE, LONG_RING, LOOP, NAMED, NO_COVER, agreeing, all_accounts, bad_accounts, great_tables, lies_below,
    small_tables, table, told_asked, told_least,
)
from ringcede.accounts import above, agrees, backed, below, enough, joint, meeting
from ringcede.errors import BadAccount, Disagrees, Short, Unbacked
from ringcede.greatest import greatest
from ringcede.least import least

# Two idle rings beside one another, each of which may rest or go round by itself.
TWO_RINGS = (
    4,
    [
        (0, "layer", 0, 2, ((1, 1),)), (1, "layer", 0, 2, ((0, 1),)),
        (2, "layer", 0, 1, ((3, 1),)), (3, "layer", 0, 1, ((2, 1),)),
    ],
    [0, 0, 0, 0],
)
# A ring that may go round beside a loss, of which each crown is split between two houses that hand it back.
SPLIT = (
    3,
    [(0, "layer", 1, 3, ((1, 1), (2, 1))), (1, "layer", 0, 3, ((0, 1),)), (2, "share", 100, 3, ((0, 1),))],
    [1, 0, 0],
)
# A loss that is handed on, beside an idle ring: accounts that agree lie nearer than the least and the greatest.
BESIDE = (
    4,
    [(0, "share", 50, 3, ((1, 1),)), (2, "layer", 0, 2, ((3, 1),)), (3, "layer", 0, 2, ((2, 1),))],
    [4, 0, 0, 0],
)


def small_and_rings():
    return small_tables() + [TWO_RINGS, SPLIT, BESIDE]


def nearest(accounts):
    """The one of the accounts that lies below all of them."""
    return [one for one in accounts if all(lies_below(one, other) for other in accounts)][0]


def farthest(accounts):
    """The one of the accounts below which all of them lie."""
    return [one for one in accounts if all(lies_below(other, one) for other in accounts)][0]


def changed(account, place, crowns):
    return account[:place] + [account[place] + crowns] + account[place + 1:]


class AccountsCase(unittest.TestCase):

    def assert_tells(self, told, ask, plain, *accounts):
        """The call tells this, a new list if it is one, and leaves table and accounts as they were."""
        ground, then = table(plain), [list(account) for account in accounts]
        with self.subTest(ask=ask.__name__, plain=plain, accounts=accounts):
            answer = ask(ground, *accounts)
            self.assertEqual(answer, told)
            self.assertIs(type(answer), type(told))
            if type(told) is list:
                answer.append(7)
                answer[0] = 99
                self.assertEqual(ask(ground, *accounts), told)
            self.assertEqual(list(accounts), then)
            self.assertEqual((ground.houses(), ground.covers(), ground.losses()), plain)
            self.assertEqual(ground.mosts(), [cover[3] for cover in plain[1]])

    def assert_refuses(self, error, ask, plain, *accounts):
        ground, then = table(plain), [list(account) for account in accounts]
        with self.subTest(ask=ask.__name__, plain=plain, accounts=accounts):
            self.assertRaises(error, ask, ground, *accounts)
            self.assertEqual(list(accounts), then)


class JudgingTest(AccountsCase):

    def test_by_hand(self):
        for account, told in (
            ([4, 3], (True, True, True)),
            ([4, 2], (False, True, False)),
            ([3, 2], (False, True, False)),
            ([0, 0], (False, True, False)),
            ([5, 3], (False, False, True)),
            ([10, 3], (False, False, True)),
            ([3, 3], (False, False, False)),
            ([5, 2], (False, False, False)),
        ):
            for ask, answer in zip((agrees, backed, enough), told):
                self.assert_tells(answer, ask, CHAIN, account)

    def test_no_cover(self):
        for ask in (agrees, backed, enough):
            self.assert_tells(True, ask, NO_COVER, [])

    def test_least_and_greatest_and_each_place_up_and_down(self):
        for plain in great_tables():
            mosts = [cover[3] for cover in plain[1]]
            for account in (least(table(plain)), greatest(table(plain))):
                for ask in (agrees, backed, enough):
                    self.assert_tells(True, ask, plain, account)
                for place, most in enumerate(mosts):
                    # What falls to other houses can't lessen what the cover itself asks, so one up is
                    # never backed, and one down never enough.
                    if account[place] < most:
                        self.assert_tells(False, agrees, plain, changed(account, place, 1))
                        self.assert_tells(False, backed, plain, changed(account, place, 1))
                    if account[place] > 0:
                        self.assert_tells(False, agrees, plain, changed(account, place, -1))
                        self.assert_tells(False, enough, plain, changed(account, place, -1))

    def test_like_the_words_for_all_accounts_of_small_tables(self):
        neither = 0
        for plain in small_tables():
            ground = table(plain)
            for account in all_accounts(plain):
                asked = told_asked(plain, account)
                told = (asked == account, lies_below(account, asked), lies_below(asked, account))
                neither += not any(told)
                self.assertEqual((agrees(ground, account), backed(ground, account), enough(ground, account)), told)
        self.assertGreater(neither, 100)

    def test_accounts_refused(self):
        for plain in NAMED:
            for account in bad_accounts(plain):
                for ask in (agrees, backed, enough):
                    self.assert_refuses(BadAccount, ask, plain, account)


class NearestTest(AccountsCase):

    def test_by_hand(self):
        self.assert_tells([4, 3], above, CHAIN, [0, 0])
        self.assert_tells([4, 3], above, CHAIN, [3, 1])
        self.assert_tells([4, 3], below, CHAIN, [10, 3])
        self.assert_tells([1, 1, 1], above, IDLE, [1, 1, 1])
        self.assert_tells([3, 3, 3], below, IDLE, [5, 3, 4])
        self.assert_tells([3, 3, 3], below, IDLE, [4, 3, 4])
        self.assert_tells([2, 1, 1], above, SPLIT, [2, 1, 1])
        self.assert_tells([0, 0, 0], below, SPLIT, [0, 0, 0])
        self.assert_tells([3, 2, 1], below, SPLIT, [3, 3, 3])
        for turn in (0, 1, 2):
            self.assert_tells([2, turn, turn], above, BESIDE, [0, turn, turn])
            self.assert_tells([2, turn, turn], below, BESIDE, [3, turn, turn])
        self.assert_tells([24] * 6, above, LONG_RING, [0] * 6)

    def test_one_that_agrees_already(self):
        for plain in small_and_rings():
            for account in agreeing(plain):
                if account:
                    self.assert_tells(account, above, plain, account)
                    self.assert_tells(account, below, plain, account)
        self.assertEqual(above(table(NO_COVER), []), [])
        self.assertEqual(below(table(NO_COVER), []), [])

    def test_a_told_list_is_not_the_handed_one(self):
        ground, account = table(CHAIN), [4, 3]
        for ask in (above, below):
            self.assertIsNot(ask(ground, account), account)
        for ask in (joint, meeting):
            self.assertIsNot(ask(ground, account, account), account)

    def test_against_all_accounts_of_small_tables(self):
        for plain in small_and_rings():
            ground, good = table(plain), agreeing(plain)
            for account in all_accounts(plain):
                asked = told_asked(plain, account)
                with self.subTest(plain=plain, account=account):
                    if lies_below(account, asked):
                        told = nearest([other for other in good if lies_below(account, other)])
                        self.assertEqual(above(ground, account), told)
                    else:
                        self.assertRaises(Unbacked, above, ground, account)
                    if lies_below(asked, account):
                        told = farthest([other for other in good if lies_below(other, account)])
                        self.assertEqual(below(ground, account), told)
                    else:
                        self.assertRaises(Short, below, ground, account)

    def test_from_nought_and_from_the_mosts(self):
        for plain in great_tables():
            ground = table(plain)
            self.assertEqual(above(ground, [0] * len(plain[1])), told_least(plain))
            self.assertEqual(below(ground, ground.mosts()), greatest(ground))

    def test_refused(self):
        self.assert_refuses(Unbacked, above, CHAIN, [5, 3])
        self.assert_refuses(Unbacked, above, CHAIN, [3, 3])
        self.assert_refuses(Short, below, CHAIN, [4, 2])
        self.assert_refuses(Short, below, CHAIN, [3, 3])
        self.assert_refuses(Short, below, CHAIN, [5, 2])

    def test_bad_accounts_refused_first(self):
        for plain in NAMED:
            for account in bad_accounts(plain):
                self.assert_refuses(BadAccount, above, plain, account)
                self.assert_refuses(BadAccount, below, plain, account)
        # Here the list is no account, and what stands in it would be refused otherwise too.
        self.assert_refuses(BadAccount, above, CHAIN, [5, 4])
        self.assert_refuses(BadAccount, above, CHAIN, [5, 3, 0])
        self.assert_refuses(BadAccount, above, CHAIN, [5, -1])
        self.assert_refuses(BadAccount, below, CHAIN, [0, -1])
        self.assert_refuses(BadAccount, below, CHAIN, [0])
        self.assert_refuses(BadAccount, below, CHAIN, [11, 0])


class JointAndMeetingTest(AccountsCase):

    def assert_both_ways(self, told, ask, plain, one, other):
        self.assert_tells(told, ask, plain, one, other)
        self.assert_tells(told, ask, plain, other, one)

    def test_by_hand(self):
        self.assert_both_ways([2, 2, 2], joint, IDLE, [1, 1, 1], [2, 2, 2])
        self.assert_both_ways([1, 1, 1], meeting, IDLE, [1, 1, 1], [2, 2, 2])
        self.assert_both_ways([2, 2, 1, 1], joint, TWO_RINGS, [2, 2, 0, 0], [1, 1, 1, 1])
        self.assert_both_ways([1, 1, 0, 0], meeting, TWO_RINGS, [2, 2, 0, 0], [1, 1, 1, 1])
        self.assert_both_ways([0, 0, 0, 0], meeting, TWO_RINGS, [2, 2, 0, 0], [0, 0, 1, 1])

    def test_against_all_accounts_of_small_tables(self):
        apart = 0
        for plain in small_and_rings():
            ground, good = table(plain), agreeing(plain)
            for one in good:
                for other in good:
                    over = nearest([each for each in good if lies_below(one, each) and lies_below(other, each)])
                    under = farthest([each for each in good if lies_below(each, one) and lies_below(each, other)])
                    apart += over not in (one, other)
                    with self.subTest(plain=plain, one=one, other=other):
                        self.assertEqual(joint(ground, one, other), over)
                        self.assertEqual(meeting(ground, one, other), under)
        # Neither of such two lies below the other.
        self.assertGreaterEqual(apart, 6)

    def test_of_one_with_itself(self):
        for plain in small_and_rings():
            for account in agreeing(plain):
                if account:
                    self.assert_tells(account, joint, plain, account, list(account))
                    self.assert_tells(account, meeting, plain, account, account)
        for ask in (joint, meeting):
            self.assertEqual(ask(table(NO_COVER), [], []), [])

    def test_of_the_least_and_the_greatest(self):
        for plain in great_tables():
            if plain[1]:
                low, high = least(table(plain)), greatest(table(plain))
                self.assert_both_ways(high, joint, plain, low, high)
                self.assert_both_ways(low, meeting, plain, low, high)

    def test_whichever_does_not_agree(self):
        for plain in (CHAIN, LOOP, IDLE):
            good = least(table(plain))
            for bad in all_accounts(plain):
                if told_asked(plain, bad) != bad:
                    for ask in (joint, meeting):
                        self.assert_refuses(Disagrees, ask, plain, good, bad)
                        self.assert_refuses(Disagrees, ask, plain, bad, good)
                        self.assert_refuses(Disagrees, ask, plain, bad, bad)

    def test_bad_accounts_refused_first(self):
        for plain in (CHAIN, LOOP, LONG_RING):
            good = least(table(plain))
            for bad in bad_accounts(plain):
                for other in (good, [0] * len(good), changed(good, 0, -1), bad):
                    for ask in (joint, meeting):
                        self.assert_refuses(BadAccount, ask, plain, other, bad)
                        self.assert_refuses(BadAccount, ask, plain, bad, other)
        for ask in (joint, meeting):
            self.assert_refuses(BadAccount, ask, NO_COVER, [0], [])
            self.assert_refuses(BadAccount, ask, NO_COVER, [], [0])


if __name__ == "__main__":
    unittest.main()
