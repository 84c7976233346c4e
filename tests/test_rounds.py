"""[7]: bills that go round; with [1] as far as it speaks of this."""

import random
import unittest

from helper import CHAIN, LOOP, NAMED, great_tables, table, told_asked
from ringcede.errors import NoCover
from ringcede.rounds import Rounds


def told_waiting(plain, account):
    return [cover for cover, (bill, wish) in enumerate(zip(account, told_asked(plain, account))) if wish > bill]


class RoundsTest(unittest.TestCase):

    def assert_stands(self, rounds, account, waiting):
        self.assertEqual(rounds.account(), account)
        self.assertEqual(rounds.waiting(), waiting)
        self.assertIs(type(rounds.account()), list)
        self.assertIs(type(rounds.waiting()), list)

    def test_at_first_all_are_nought(self):
        for plain in NAMED:
            bills = [0] * len(plain[1])
            self.assert_stands(Rounds(table(plain)), bills, told_waiting(plain, bills))

    def test_a_chain_by_hand(self):
        rounds = Rounds(table(CHAIN))
        self.assert_stands(rounds, [0, 0], [0])
        self.assertEqual(rounds.ask(1), 0)
        self.assert_stands(rounds, [0, 0], [0])
        self.assertEqual(rounds.ask(0), 4)
        self.assert_stands(rounds, [4, 0], [1])
        self.assertEqual(rounds.ask(0), 4)
        self.assertEqual(rounds.ask(1), 3)
        self.assert_stands(rounds, [4, 3], [])

    def test_a_loop_by_hand(self):
        rounds = Rounds(table(LOOP))
        self.assert_stands(rounds, [0, 0, 0], [0, 1])
        self.assertEqual(rounds.ask(1), 2)
        self.assert_stands(rounds, [0, 2, 0], [0])
        self.assertEqual(rounds.ask(0), 5)
        self.assert_stands(rounds, [5, 2, 0], [2])
        self.assertEqual(rounds.ask(2), 2)
        # 12 reach the first cover of house 0 now, of which it asks 6; of the 6 left over 3 are above 3.
        self.assert_stands(rounds, [5, 2, 2], [0, 1])
        self.assertEqual(rounds.ask(0), 6)
        self.assertEqual(rounds.ask(1), 3)
        self.assert_stands(rounds, [6, 3, 2], [])

    def test_no_cover(self):
        self.assert_stands(Rounds(table((1, [], [7]))), [], [])

    def test_like_the_words_in_any_order(self):
        chance = random.Random(11)
        for plain in great_tables():
            rounds, bills = Rounds(table(plain)), [0] * len(plain[1])
            for asking in range(4 * len(bills)):
                cover = chance.randrange(len(bills))
                bill = told_asked(plain, bills)[cover]
                with self.subTest(plain=plain, bills=bills, cover=cover):
                    self.assertGreaterEqual(bill, bills[cover])
                    bills[cover] = bill
                    self.assertEqual(rounds.ask(cover), bill)
                    self.assert_stands(rounds, bills, told_waiting(plain, bills))

    def test_cover_refused_and_nothing_changed(self):
        for plain in NAMED:
            many = len(plain[1])
            rounds = Rounds(table(plain))
            for cover in range(many):
                rounds.ask(cover)
            account, waiting = rounds.account(), rounds.waiting()
            for cover in (-many - 1, -many, -2, -1, many, many + 1, 99):
                if not 0 <= cover < many:
                    self.assertRaises(NoCover, rounds.ask, cover)
            self.assert_stands(rounds, account, waiting)

    def test_a_refused_number_asks_no_other_cover(self):
        rounds = Rounds(table(LOOP))
        for cover in (-3, -2, -1, 3, 4):
            self.assertRaises(NoCover, rounds.ask, cover)
        self.assert_stands(rounds, [0, 0, 0], [0, 1])

    def test_a_twin_goes_its_own_way(self):
        first = Rounds(table(LOOP))
        first.ask(0)
        second = first.twin()
        self.assertIsInstance(second, Rounds)
        self.assert_stands(second, [5, 0, 0], [1, 2])
        self.assertEqual(second.ask(2), 2)
        self.assert_stands(second, [5, 0, 2], [0, 1])
        self.assert_stands(first, [5, 0, 0], [1, 2])
        self.assertEqual(first.ask(1), 2)
        self.assert_stands(first, [5, 2, 0], [2])
        self.assert_stands(second, [5, 0, 2], [0, 1])
        third = second.twin()
        self.assertEqual(third.ask(0), 6)
        self.assert_stands(third, [6, 0, 2], [1])
        self.assert_stands(second, [5, 0, 2], [0, 1])
        self.assert_stands(first.twin(), [5, 2, 0], [2])

    def test_several_of_one_table(self):
        ground = table(LOOP)
        one, other = Rounds(ground), Rounds(ground)
        one.ask(0)
        self.assert_stands(one, [5, 0, 0], [1, 2])
        self.assert_stands(other, [0, 0, 0], [0, 1])
        other.ask(1)
        self.assert_stands(one, [5, 0, 0], [1, 2])
        self.assert_stands(other, [0, 2, 0], [0])
        self.assert_stands(Rounds(ground), [0, 0, 0], [0, 1])
        self.assertEqual((ground.houses(), ground.covers(), ground.losses()), LOOP)

    def test_told_lists_are_new_ones(self):
        rounds = Rounds(table(LOOP))
        rounds.ask(1)
        for tell in (rounds.account, rounds.waiting):
            tell().append(1)
            tell()[0] = 4
            tell().clear()
        self.assert_stands(rounds, [0, 2, 0], [0])
        self.assertEqual(rounds.ask(0), 5)
        twin = rounds.twin()
        twin.account()[0] = 1
        rounds.account()[0] = 1
        self.assert_stands(rounds, [5, 2, 0], [2])
        self.assert_stands(twin, [5, 2, 0], [2])


if __name__ == "__main__":
    unittest.main()
