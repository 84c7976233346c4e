"""[4] and [5]: tables, accounts, burdens, and what the covers ask; with [1] as far as it speaks of this."""

import random
import unittest

from helper import LOOP, NAMED, all_accounts, bad_accounts, great_tables, small_tables, table, told_asked, told_burdens
from ringcede.errors import BadAccount, BadCover, BadHouses, BadLosses, NoHouse
from ringcede.tables import Table, asked, burdens

GOOD_COVER = (0, "share", 50, 10, ((1, 1),))
# Rows that are no covers among 3 houses.
BAD_COVERS = (
    (),
    (0, "share", 50, 10),
    (0, "share", 50, 10, ((1, 1),), 0),
    (3, "share", 50, 10, ((1, 1),)),
    (-1, "share", 50, 10, ((1, 1),)),
    (0, "stop", 50, 10, ((1, 1),)),
    (0, "share", 0, 10, ((1, 1),)),
    (0, "layer", 201, 10, ((1, 1),)),
    (0, "share", 50, 25, ((1, 1),)),
    (0, "share", 50, -1, ((1, 1),)),
    (0, "share", 50, 10, ()),
    (0, "share", 50, 10, ((0, 1),)),
    (0, "share", 50, 10, ((3, 1),)),
    (0, "share", 50, 10, ((1, 21),)),
)
BAD_LOSSES = ([], [0, 0], [0, 0, 0, 0], [-1, 0, 0], [0, -1, 0], [0, 0, -1], [10000, 0, 0], [0, 10000, 0],
              [0, 0, 10000], [0, 0, -50], [0, 99999, 0])


class TableTest(unittest.TestCase):

    def assert_tells(self, told, houses, covers, losses):
        self.assertEqual(told.houses(), houses)
        self.assertEqual(told.covers(), covers)
        self.assertEqual(told.losses(), losses)
        self.assertEqual(told.mosts(), [cover[3] for cover in covers])
        for answer in (told.covers(), told.losses(), told.mosts()):
            self.assertIs(type(answer), list)

    def test_tells_what_was_handed_in(self):
        for plain in NAMED:
            self.assert_tells(table(plain), *plain)

    def test_at_each_bound(self):
        for houses in range(1, 7):
            for crowns in (0, 9999):
                self.assert_tells(Table(houses, [], [crowns] * houses), houses, [], [crowns] * houses)
        for many in range(11):
            self.assert_tells(Table(2, [GOOD_COVER] * many, [0, 9999]), 2, [GOOD_COVER] * many, [0, 9999])
        for most in (0, 24):
            self.assertEqual(Table(2, [(1, "layer", 200, most, ((0, 20),))], [1, 2]).mosts(), [most])

    def test_told_lists_are_new_ones(self):
        told = table(LOOP)
        for answer in (told.covers, told.losses, told.mosts):
            answer().append(answer()[0])
            answer().clear()
            changed = answer()
            changed[0] = changed[1]
        self.assert_tells(told, *LOOP)

    def test_handed_lists_are_not_kept(self):
        houses, covers, losses = LOOP[0], list(LOOP[1]), list(LOOP[2])
        told = Table(houses, covers, losses)
        self.assertEqual((covers, losses), LOOP[1:])
        covers[0] = GOOD_COVER
        covers.append(GOOD_COVER)
        losses[0] = 77
        losses.append(77)
        self.assert_tells(told, *LOOP)
        self.assertEqual(burdens(told, [5, 2, 1]), [11, 2, 7])
        self.assertEqual(asked(told, [5, 2, 1]), [5, 3, 2])

    def test_two_tables_beside_one_another(self):
        one, other = Table(2, [GOOD_COVER], [1, 2]), Table(3, [], [7, 8, 9])
        like_one = Table(2, [GOOD_COVER], [1, 2])
        one.losses().append(5)
        one.more(0, 5)
        self.assert_tells(one, 2, [GOOD_COVER], [1, 2])
        self.assert_tells(other, 3, [], [7, 8, 9])
        self.assert_tells(like_one, 2, [GOOD_COVER], [1, 2])

    def test_houses_refused(self):
        for houses in (-1, 0, 7, 8):
            self.assertRaises(BadHouses, Table, houses, [], [0] * max(0, houses))

    def test_covers_refused(self):
        self.assertRaises(BadCover, Table, 3, [GOOD_COVER] * 11, [0, 0, 0])
        self.assertRaises(BadCover, Table, 3, [GOOD_COVER] * 12, [0, 0, 0])
        for row in BAD_COVERS:
            for many in (1, 3, 10):
                for place in range(many):
                    covers = [GOOD_COVER] * many
                    covers[place] = row
                    with self.subTest(row=row, place=place, many=many):
                        self.assertRaises(BadCover, Table, 3, covers, [0, 0, 0])

    def test_one_house_has_no_cover(self):
        self.assertRaises(BadCover, Table, 1, [GOOD_COVER], [0])
        self.assertRaises(BadCover, Table, 1, [(0, "share", 50, 10, ((0, 1),))], [0])

    def test_losses_refused(self):
        for losses in BAD_LOSSES:
            with self.subTest(losses=losses):
                self.assertRaises(BadLosses, Table, 3, [], losses)
                self.assertRaises(BadLosses, Table, 3, [GOOD_COVER], losses)

    def test_of_several_refusals_the_first(self):
        for losses in ([0, 0, 0], [-1, 0], [10000, 0, 0]):
            for covers in ([], [()], [GOOD_COVER] * 11, [GOOD_COVER, BAD_COVERS[3]]):
                for houses in (0, 7):
                    self.assertRaises(BadHouses, Table, houses, covers, losses)
        for losses in BAD_LOSSES:
            for covers in ([()], [GOOD_COVER] * 11, [GOOD_COVER, BAD_COVERS[3]], [BAD_COVERS[8]]):
                self.assertRaises(BadCover, Table, 3, covers, losses)


class MoreTest(unittest.TestCase):

    def test_another_table_and_the_first_as_it_was(self):
        first = table(LOOP)
        for house, crowns, losses in (
            (0, 1, [11, 0, 2]), (0, -1, [9, 0, 2]), (0, 0, [10, 0, 2]), (1, 30, [10, 30, 2]), (2, -2, [10, 0, 0]),
            (2, 9997, [10, 0, 9999]), (0, -10, [0, 0, 2]), (0, 9989, [9999, 0, 2]), (1, 0, [10, 0, 2]),
        ):
            with self.subTest(house=house, crowns=crowns):
                other = first.more(house, crowns)
                self.assertIsInstance(other, Table)
                self.assertIsNot(other, first)
                self.assertEqual((other.houses(), other.covers(), other.losses()), (3, LOOP[1], losses))
                self.assertEqual(other.mosts(), first.mosts())
                self.assertEqual((first.houses(), first.covers(), first.losses()), LOOP)
                self.assertEqual(burdens(other, [0, 0, 0]), losses)
                self.assertEqual(burdens(first, [0, 0, 0]), LOOP[2])

    def test_more_of_more(self):
        self.assertEqual(table(LOOP).more(0, 5).more(1, 3).more(0, -15).losses(), [0, 3, 2])

    def test_house_refused(self):
        for house in (-3, -2, -1, 3, 4, 6):
            for crowns in (-1, 0, 1, 10000, -10000):
                self.assertRaises(NoHouse, table(LOOP).more, house, crowns)

    def test_losses_refused(self):
        first = table(LOOP)
        for house, crowns in ((0, -11), (0, 9990), (1, -1), (1, 10000), (2, -3), (2, 9998)):
            self.assertRaises(BadLosses, first.more, house, crowns)
        self.assertEqual((first.houses(), first.covers(), first.losses()), LOOP)


class BurdensAndAskedTest(unittest.TestCase):

    def test_burdens_by_hand(self):
        # Of a bill of 5 the lines ((1, 1), (2, 2)) bear 2 and 3.
        self.assertEqual(burdens(table(LOOP), [5, 2, 1]), [11, 2, 7])
        self.assertEqual(burdens(table(LOOP), [0, 0, 0]), [10, 0, 2])
        self.assertEqual(burdens(table(LOOP), [10, 6, 4]), [14, 3, 15])

    def test_asked_by_hand(self):
        # 11 reach the first cover of house 0, which asks 5; 6 are left over, 3 of them above 3.
        self.assertEqual(asked(table(LOOP), [5, 2, 1]), [5, 3, 2])
        self.assertEqual(asked(table(LOOP), [0, 0, 0]), [5, 2, 0])
        self.assertEqual(asked(table(LOOP), [10, 6, 4]), [7, 4, 3])

    def test_left_over_is_what_was_asked_not_what_the_account_has(self):
        for bill in (0, 4, 10):
            self.assertEqual(asked(table(LOOP), [bill, 0, 0])[:2], [5, 2])

    def test_covers_one_behind_another(self):
        lines = ((1, 1),)
        for first, second, loss, told in (
            ((0, "share", 100, 24, lines), (0, "share", 100, 24, lines), 20, [20, 0]),
            ((0, "share", 100, 24, lines), (0, "share", 100, 24, lines), 24, [24, 0]),
            ((0, "share", 100, 24, lines), (0, "share", 100, 24, lines), 30, [24, 6]),
            ((0, "share", 100, 24, lines), (0, "layer", 0, 24, lines), 60, [24, 24]),
            ((0, "layer", 10, 24, lines), (0, "share", 100, 24, lines), 10, [0, 10]),
            ((0, "layer", 10, 24, lines), (0, "share", 100, 24, lines), 13, [3, 10]),
            ((0, "share", 1, 24, lines), (0, "share", 50, 24, lines), 20, [0, 10]),
            ((0, "share", 50, 24, lines), (0, "share", 50, 24, lines), 7, [3, 2]),
            ((0, "share", 50, 2, lines), (0, "share", 50, 24, lines), 7, [2, 2]),
            ((0, "share", 100, 0, lines), (0, "layer", 6, 24, lines), 7, [0, 1]),
            ((0, "share", 50, 24, lines), (0, "layer", 4, 24, lines), 9, [4, 1]),
        ):
            with self.subTest(first=first, second=second, loss=loss):
                self.assertEqual(asked(Table(2, [first, second], [loss, 0]), [0, 0]), told)
                # Covers of another house between them have no part in it.
                between = (1, "share", 100, 24, ((0, 1),))
                told_between = asked(Table(2, [first, between, second], [loss, 3]), [0, 0, 0])
                self.assertEqual(told_between, [told[0], 3, told[1]])

    def test_the_order_of_covers_counts(self):
        share, layer = (0, "share", 50, 24, ((1, 1),)), (0, "layer", 4, 24, ((1, 1),))
        self.assertEqual(asked(Table(2, [share, layer], [20, 0]), [0, 0]), [10, 6])
        self.assertEqual(asked(Table(2, [layer, share], [20, 0]), [0, 0]), [16, 2])

    def test_a_house_beyond_its_losses_bound(self):
        told = Table(2, [(0, "layer", 200, 24, ((1, 1),)), (0, "layer", 0, 24, ((1, 1),))], [9999, 9999])
        self.assertEqual(burdens(told, [24, 24]), [9999, 10047])
        self.assertEqual(asked(told, [24, 24]), [24, 24])

    def test_like_the_words_for_all_accounts_of_small_tables(self):
        for plain in small_tables():
            told = table(plain)
            for account in all_accounts(plain):
                self.assertEqual(burdens(told, account), told_burdens(plain, account))
                self.assertEqual(asked(told, account), told_asked(plain, account))

    def test_like_the_words_for_great_tables(self):
        chance = random.Random(5)
        for plain in great_tables():
            told = table(plain)
            accounts = [[0] * len(plain[1]), told.mosts()]
            accounts += [[chance.randint(0, most) for most in told.mosts()] for number in range(10)]
            for account in accounts:
                with self.subTest(plain=plain, account=account):
                    self.assertEqual(burdens(told, account), told_burdens(plain, account))
                    self.assertEqual(asked(told, account), told_asked(plain, account))

    def test_no_cover(self):
        told = Table(2, [], [3, 4])
        self.assertEqual(burdens(told, []), [3, 4])
        self.assertEqual(asked(told, []), [])

    def test_accounts_refused(self):
        for plain in NAMED:
            for account in bad_accounts(plain):
                with self.subTest(plain=plain, account=account):
                    self.assertRaises(BadAccount, burdens, table(plain), account)
                    self.assertRaises(BadAccount, asked, table(plain), account)

    def test_handed_and_told_lists(self):
        told, account = table(LOOP), [5, 2, 1]
        for ask, answer in ((burdens, [11, 2, 7]), (asked, [5, 3, 2])):
            first = ask(told, account)
            self.assertIs(type(first), list)
            self.assertEqual(first, answer)
            first[0] = 50
            first.append(9)
            self.assertEqual(account, [5, 2, 1])
            self.assertEqual(ask(told, account), answer)
        self.assertEqual((told.houses(), told.covers(), told.losses()), LOOP)
        bare = Table(1, [], [7])
        burdens(bare, []).append(5)
        self.assertEqual(bare.losses(), [7])


if __name__ == "__main__":
    unittest.main()
