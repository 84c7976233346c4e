"""[15] to [18]: what comes of a ring's happenings, what is due and paid, and what a loss costs."""

import itertools
import random
import unittest

from helper import PlainRing, do_deed, made_deed, made_terms, plain_ring, plain_table, snapshot
from ringcede.errors import NoCover, NoHappening, NoLoss, RingError
from ringcede.ring import Ring
from ringcede.tables import Table

BOTH = ((1, 1), (2, 2))
SHARE = ("share", 0, 50, 10, 12, 10, 20, BOTH)
LAYER = ("layer", 1, 2, 24, 120, 0, 99, ((2, 1),))
STOP = ("stop", 0, 20, 6, ((2, 1), (1, 3)))


def made_ring(houses, covers, days, losses):
    ring = Ring(houses)
    for terms in covers:
        ring.sign(terms)
    for day in days:
        ring.happen(day)
    for happening, house, crowns in losses:
        ring.lose(happening, house, crowns)
    return ring


def walked_rings(many, deeds):
    """Rings by chance, each of them shown now and then on its way."""
    for seed in range(many):
        chance = random.Random(seed)
        ring = Ring(chance.randint(2, 6))
        for number in range(deeds):
            try:
                do_deed(ring, made_deed(chance, ring))
            except RingError:
                pass
            if number % 12 == 11:
                yield ring


class DaysCase(unittest.TestCase):

    def assert_by_the_words(self, ring):
        told = plain_ring(ring)
        for happening, day in ring.happenings():
            self.assertEqual(ring.numbers(happening), told.numbers[happening])
            self.assertEqual(plain_table(ring.table(happening)), told.plains[happening])
            self.assertEqual(ring.bills(happening), told.bills[happening])
            self.assertEqual(ring.kept(happening), told.kept[happening])
        self.assertEqual(plain_table(ring.end_table()), told.end)
        self.assertEqual(ring.borne(), told.borne)
        self.assertEqual(sum(ring.borne()), sum(row[3] for row in ring.losses()))
        for cover in range(len(ring.covers())):
            self.assertEqual(ring.left(cover), told.left(cover))
            self.assertEqual(ring.due(cover), told.due(cover))
            self.assertEqual(ring.owed(cover), [due - paid for due, paid in zip(told.due(cover), ring.paid(cover))])


class HappeningTest(DaysCase):

    def test_by_hand(self):
        ring = made_ring(3, [SHARE, STOP, LAYER], [15], [(0, 0, 9), (0, 1, 4), (0, 0, 4)])
        self.assertEqual(ring.numbers(0), [0, 2])
        self.assertIsInstance(ring.table(0), Table)
        covers = [(0, "share", 50, 10, BOTH), (1, "layer", 2, 24, ((2, 1),))]
        self.assertEqual(plain_table(ring.table(0)), (3, covers, [13, 4, 0]))
        # Of 13 half is 6: 2 to house 1, 4 to house 2; of 6 house 1 hands on 4.
        self.assertEqual(ring.bills(0), [6, 0, 4])
        self.assertEqual(ring.kept(0), [7, 2, 8])

    def test_first_and_last_day(self):
        for day in range(100):
            ring = made_ring(3, [SHARE, LAYER, STOP], [day], [(0, 0, 20)])
            self.assertEqual(ring.numbers(0), [0, 1] if 10 <= day <= 20 else [1])
            self.assertEqual(ring.bills(0)[0], 10 if 10 <= day <= 20 else 0)
        for terms, day, told in (
            (SHARE[:5] + (7, 7, BOTH), 7, [0]), (SHARE[:5] + (7, 7, BOTH), 6, []), (SHARE[:5] + (7, 7, BOTH), 8, []),
            (SHARE[:5] + (0, 99, BOTH), 0, [0]), (SHARE[:5] + (0, 99, BOTH), 99, [0]),
        ):
            self.assertEqual(made_ring(3, [terms], [day], []).numbers(0), told)

    def test_an_ended_cover(self):
        for ended in (0, 9, 10, 11, 14, 15, 16, 20, 21, 99):
            ring = made_ring(3, [SHARE], [10, 15, 20], [(0, 0, 2), (1, 0, 4), (2, 0, 6)])
            ring.end(0, ended)
            told = [[bill] if day < ended else [0] for day, bill in ((10, 1), (15, 2), (20, 3))]
            self.assertEqual([ring.bills(number) for number in range(3)], told)
            self.assertEqual(
                [ring.numbers(number) for number in range(3)], [[0] if day < ended else [] for day in (10, 15, 20)],
            )

    def test_ended_anew_earlier_and_later(self):
        ring = made_ring(3, [SHARE], [15], [(0, 0, 4)])
        for ended, bill in ((15, 0), (16, 2), (14, 0), (99, 2), (0, 0)):
            ring.end(0, ended)
            self.assertEqual(ring.bills(0), [bill])

    def test_a_cover_with_nothing_to_ask_is_in_the_table(self):
        ring = made_ring(3, [SHARE, LAYER], [15], [])
        self.assertEqual((ring.numbers(0), ring.bills(0), ring.kept(0)), ([0, 1], [0, 0], [0, 0, 0]))

    def test_happening_refused(self):
        ring = made_ring(3, [SHARE], [15, 16], [(0, 0, 5)])
        ring.merge(1, 0)
        for happening in (-2, -1, 0, 2, 99):
            for ask in (ring.numbers, ring.table, ring.bills, ring.kept):
                self.assertRaises(NoHappening, ask, happening)


class WholeTest(DaysCase):

    def assert_bills(self, ring, bills, mosts):
        """The bills of the first cover, and its mosts in the tables, by the happenings' numbers."""
        numbers = sorted(number for number, day in ring.happenings())
        self.assertEqual([ring.bills(number)[0] for number in numbers], bills)
        self.assertEqual([ring.table(number).mosts()[0] for number in numbers], mosts)
        self.assertEqual(ring.left(0), 12 - sum(bills))

    def test_used_up_in_part_and_wholly(self):
        ring = made_ring(3, [SHARE], [12, 13, 14], [(0, 0, 10), (1, 0, 10), (2, 0, 20)])
        self.assert_bills(ring, [5, 5, 2], [10, 7, 2])
        self.assertEqual(plain_table(ring.table(2)), (3, [(0, "share", 50, 2, BOTH)], [20, 0, 0]))
        ring.lose(ring.happen(15), 0, 20)
        # Nothing is left of the whole, but the day is covered.
        self.assert_bills(ring, [5, 5, 2, 0], [10, 7, 2, 0])
        self.assertEqual(ring.numbers(3), [0])

    def test_by_days_not_by_numbers(self):
        ring = made_ring(3, [SHARE], [14, 13, 12], [(0, 0, 20), (1, 0, 10), (2, 0, 10)])
        self.assert_bills(ring, [2, 5, 5], [2, 7, 10])

    def test_of_one_day_the_lesser_number_first(self):
        ring = made_ring(3, [SHARE], [13, 13], [(1, 0, 20), (0, 0, 20)])
        self.assert_bills(ring, [10, 2], [10, 2])
        ring.shift(0, 14)
        self.assert_bills(ring, [2, 10], [2, 10])
        ring.shift(0, 13)
        self.assert_bills(ring, [10, 2], [10, 2])

    def test_a_shift_out_of_the_covered_days(self):
        ring = made_ring(3, [SHARE], [13, 14], [(0, 0, 20), (1, 0, 20)])
        ring.shift(0, 9)
        self.assertEqual((ring.bills(0), ring.bills(1), ring.numbers(0), ring.left(0)), ([0], [10], [], 2))

    def test_a_struck_and_an_amended_loss(self):
        ring = made_ring(3, [SHARE], [13, 14], [(0, 0, 20), (1, 0, 20)])
        ring.amend(0, 16)
        self.assert_bills(ring, [8, 4], [10, 4])
        ring.strike(0)
        self.assert_bills(ring, [0, 10], [10, 10])

    def test_a_moved_loss_and_a_merge(self):
        ring = made_ring(3, [SHARE], [13, 14, 15], [(0, 0, 8), (1, 0, 6), (2, 0, 20)])
        self.assert_bills(ring, [4, 3, 5], [10, 8, 5])
        ring.move(1, 0)
        self.assert_bills(ring, [7, 0, 5], [10, 5, 5])
        ring.merge(2, 0)
        # Of the 34 crowns of the later day no more than 10 are asked.
        self.assert_bills(ring, [0, 10], [10, 10])
        ring.shift(2, 13)
        self.assert_bills(ring, [0, 10], [2, 10])

    def test_each_cover_has_its_own_whole(self):
        ring = made_ring(3, [SHARE, SHARE, LAYER], [13, 14], [(0, 0, 20), (1, 0, 20), (1, 1, 20)])
        self.assertEqual(ring.table(1).mosts(), [2, 7, 24])
        self.assertEqual(ring.bills(1)[:2], [2, 7])


class EndTest(DaysCase):

    def test_by_hand(self):
        ring = made_ring(3, [SHARE, STOP], [15, 40], [(0, 0, 20), (1, 0, 13), (1, 2, 5)])
        # House 0 keeps 10 of the first and 13 of the second happening, of which 3 are above 20.
        self.assertEqual(plain_table(ring.end_table()), (3, [(0, "layer", 20, 6, STOP[-1])], [23, 3, 12]))
        self.assertIsInstance(ring.end_table(), Table)
        self.assertEqual(ring.due(1), [1, 2])
        self.assertEqual(ring.borne(), [20, 5, 13])
        self.assertEqual(ring.left(1), 3)
        # A stop has no bill in a happening.
        self.assertEqual([ring.bills(0), ring.bills(1), ring.numbers(0), ring.numbers(1)], [[10, 0], [0, 0], [0], []])

    def test_stops_in_the_order_of_their_numbers(self):
        second = ("stop", 0, 0, 24, ((2, 1),))
        for covers in ([STOP, second], [second, STOP], [STOP, SHARE, second], [SHARE, second, LAYER, STOP]):
            ring = made_ring(3, covers, [50], [(0, 0, 28)])
            stops = [terms for terms in covers if terms[0] == "stop"]
            self.assertEqual(ring.end_table().covers(), [(0, "layer", row[2], row[3], row[-1]) for row in stops])
            bills = {STOP: 6, second: 22} if stops[0] == STOP else {STOP: 0, second: 24}
            for cover, terms in enumerate(covers):
                if terms in bills:
                    self.assertEqual(ring.left(cover), terms[3] - bills[terms])
            self.assert_by_the_words(ring)

    def test_stops_that_go_round(self):
        stops = [("stop", 0, 4, 24, ((1, 1),)), ("stop", 1, 3, 24, ((2, 1),)), ("stop", 2, 2, 24, ((0, 1),))]
        ring = made_ring(3, stops, [0], [(0, 0, 9)])
        # 5 go on to house 1, and 2 of them to house 2.
        self.assertEqual([ring.left(cover) for cover in range(3)], [19, 22, 24])
        self.assertEqual(ring.borne(), [4, 3, 2])
        ring.lose(0, 0, 2)
        # Two crowns more go round till the first stop is full, and rest at its house.
        self.assertEqual([ring.left(cover) for cover in range(3)], [0, 3, 5])
        self.assertEqual(ring.borne(), [6, 3, 2])
        self.assert_by_the_words(ring)

    def test_without_a_happening(self):
        ring = made_ring(3, [SHARE, STOP], [], [])
        self.assertEqual(plain_table(ring.end_table()), (3, [(0, "layer", 20, 6, STOP[-1])], [0, 0, 0]))
        self.assertEqual([ring.left(0), ring.left(1), ring.borne()], [12, 6, [0, 0, 0]])
        self.assertEqual(plain_table(Ring(2).end_table()), (2, [], [0, 0]))

    def test_as_much_as_a_ring_holds(self):
        losses = [(number % 12, 0, 100) for number in range(30)]
        ring = made_ring(2, [("stop", 0, 200, 24, ((1, 1),))], range(12), losses)
        self.assertEqual(ring.end_table().losses(), [3000, 0])
        self.assertEqual(ring.borne(), [2976, 24])

    def test_cover_refused(self):
        ring = made_ring(3, [SHARE, STOP], [15], [(0, 0, 20)])
        for cover in (-2, -1, 2, 3, 99):
            for ask in (ring.left, ring.due, ring.paid, ring.owed):
                self.assertRaises(NoCover, ask, cover)
        self.assertRaises(NoCover, Ring(3).left, 0)


class ByTheWordsTest(DaysCase):

    def test_rings_by_chance(self):
        used_up = turned = 0
        for ring in walked_rings(25, 72):
            with self.subTest(covers=ring.covers(), happenings=ring.happenings(), losses=ring.losses()):
                self.assert_by_the_words(ring)
            used_up += any(ring.left(cover) == 0 for cover in range(len(ring.covers())))
            numbers = [number for number, day in ring.happenings()]
            turned += numbers != sorted(numbers)
        self.assertGreater(used_up, 20)
        self.assertGreater(turned, 20)

    def test_asked_behind_each_deed(self):
        # What was told ahead of a deed isn't told again behind it.
        for seed in range(6):
            chance = random.Random(100 + seed)
            ring = Ring(3)
            for number in range(40):
                deed = made_deed(chance, ring)
                try:
                    do_deed(ring, deed)
                except RingError:
                    continue
                with self.subTest(deed=deed):
                    self.assert_by_the_words(ring)


class PayingTest(DaysCase):

    def assert_paid(self, ring, due, paid):
        self.assertEqual([ring.due(cover) for cover in range(len(due))], due)
        self.assertEqual([ring.paid(cover) for cover in range(len(due))], paid)
        owed = [[crowns - part for crowns, part in zip(*pair)] for pair in zip(due, paid)]
        self.assertEqual([ring.owed(cover) for cover in range(len(due))], owed)

    def test_by_hand(self):
        ring = made_ring(3, [STOP, SHARE, LAYER], [15], [(0, 0, 60)])
        # The share asks 10, of which 3 and 7 are borne; house 1 hands on 1; house 0 keeps 50.
        self.assert_paid(ring, [[1, 5], [3, 7], [1]], [[0, 0], [0, 0], [0]])
        rows = [(0, 2, 1), (0, 1, 5), (1, 1, 3), (1, 2, 7), (2, 2, 1)]
        self.assertEqual(ring.close(), rows)
        self.assert_paid(ring, [[1, 5], [3, 7], [1]], [[1, 5], [3, 7], [1]])
        self.assertEqual(ring.close(), [])
        ring.amend(0, 4)
        self.assert_paid(ring, [[0, 0], [1, 1], [0]], [[1, 5], [3, 7], [1]])
        back = [(0, 2, -1), (0, 1, -5), (1, 1, -2), (1, 2, -6), (2, 2, -1)]
        self.assertEqual(ring.close(), back)
        ring.amend(0, 6)
        # Of 3 crowns of the share 1 falls to house 1 and 2 to house 2: only the second pair changes.
        self.assertEqual(ring.close(), [(1, 2, 1)])
        self.assert_paid(ring, [[0, 0], [1, 2], [0]], [[0, 0], [1, 2], [0]])
        self.assertEqual(ring.closings(), [rows, [], back, [(1, 2, 1)]])
        self.assertTrue(all(type(row) is tuple for closing in ring.closings() for row in closing))

    def test_of_each_bill_by_itself(self):
        ring = made_ring(3, [("layer", 0, 0, 1, 9, 0, 99, BOTH)], [1, 2, 3], [(0, 0, 5), (1, 0, 5), (2, 0, 5)])
        # The first crown of a bill falls to house 2, whose line is greater, of each bill anew.
        self.assertEqual(ring.due(0), [0, 3])
        ring = made_ring(3, [("layer", 0, 0, 3, 9, 0, 99, BOTH)], [1], [(0, 0, 5)])
        self.assertEqual(ring.due(0), [1, 2])

    def test_nothing_is_due(self):
        ring = Ring(3)
        self.assertEqual(ring.close(), [])
        ring.sign(SHARE)
        self.assertEqual(ring.close(), [])
        self.assert_paid(ring, [[0, 0]], [[0, 0]])
        self.assertEqual(ring.closings(), [[], []])

    def test_signed_behind_a_closing(self):
        ring = made_ring(3, [SHARE], [15], [(0, 0, 20), (0, 1, 8)])
        ring.close()
        ring.sign(LAYER)
        self.assertEqual(ring.paid(1), [0])
        self.assertEqual(ring.close(), [(1, 2, ring.due(1)[0])])
        ring.end(1, 0)
        self.assertEqual(ring.due(1), [0])
        self.assertEqual(ring.close(), [(1, 2, -9)])

    def test_closings_of_rings_by_chance(self):
        given_back = 0
        for seed in range(12):
            chance = random.Random(200 + seed)
            ring, paid, told = Ring(4), {}, []
            for number in range(60):
                try:
                    do_deed(ring, made_deed(chance, ring))
                except RingError:
                    pass
                if len(ring.closings()) > len(told):
                    told.append(ring.closings()[-1])
                    paid.update({cover: plain_ring(ring).due(cover) for cover in range(len(ring.covers()))})
                self.assertEqual(ring.closings(), told)
                for cover, (terms, ended) in enumerate(ring.covers()):
                    self.assertEqual(ring.paid(cover), paid.get(cover, [0] * len(terms[-1])))
                owed = self.owed_rows(ring)
                self.assertEqual(ring.twin().close(), owed)
                given_back += any(crowns < 0 for cover, house, crowns in owed)
        self.assertGreater(given_back, 20)

    def owed_rows(self, ring):
        told, rows = plain_ring(ring), []
        for cover, (terms, ended) in enumerate(ring.covers()):
            for (house, line), due, paid in zip(terms[-1], told.due(cover), ring.paid(cover)):
                if due != paid:
                    rows.append((cover, house, due - paid))
        return rows


class CostTest(DaysCase):

    def test_by_hand(self):
        ring = made_ring(3, [SHARE], [12, 14], [(0, 0, 20), (1, 0, 20), (1, 2, 6)])
        self.assertEqual(ring.borne(), [28, 4, 14])
        # Without the first loss the whole would do for the second one: 10 of its 20 would be handed on.
        self.assertEqual(ring.cost(0), [18, 1, 1])
        self.assertEqual(ring.cost(1), [18, 1, 1])
        self.assertEqual(ring.cost(2), [0, 0, 6])

    def test_against_a_ring_without_that_loss(self):
        spread = 0
        for ring in walked_rings(10, 48):
            before = snapshot(ring)
            for loss, happening, house, crowns in ring.losses():
                rows = [row for row in ring.losses() if row[0] != loss]
                without = PlainRing(ring.houses(), ring.covers(), ring.happenings(), rows)
                told = [now - then for now, then in zip(plain_ring(ring).borne, without.borne)]
                answer = ring.cost(loss)
                self.assertEqual(answer, told)
                self.assertIs(type(answer), list)
                self.assertEqual(sum(answer), crowns)
                spread += max(answer) < crowns
            self.assertEqual(snapshot(ring), before)
        self.assertGreater(spread, 20)

    def test_loss_refused(self):
        ring = made_ring(3, [SHARE], [12], [(0, 0, 20), (0, 1, 20)])
        ring.strike(0)
        for loss in (-2, -1, 0, 2, 99):
            self.assertRaises(NoLoss, ring.cost, loss)
        self.assertEqual(ring.cost(1), [0, 20, 0])


class AnyOrderTest(DaysCase):

    def test_the_same_news_in_other_orders(self):
        chance = random.Random(17)
        for number in range(20):
            houses = chance.randint(2, 5)
            covers = [made_terms(chance, houses) for cover in range(chance.randint(1, 8))]
            days = chance.sample(range(21), chance.randint(1, 6))
            losses = [(chance.choice(days), chance.randrange(houses), chance.randint(1, 60)) for loss in range(12)]
            told = None
            for turn in range(5):
                answer = self.answers(self.told_in_turn(chance, houses, covers, days, losses))
                told = told or answer
                self.assertEqual(answer, told)

    def told_in_turn(self, chance, houses, covers, days, losses):
        """A ring to which all is told by chance, each loss behind its happening; the covers keep their order."""
        ring, number_of = Ring(houses), {}
        covers, days, losses = list(covers), chance.sample(days, len(days)), chance.sample(losses, len(losses))
        while covers or days or losses:
            news = chance.choice((covers, days, losses))
            if news is covers and covers:
                ring.sign(covers.pop(0))
            elif news is days and days:
                day = days.pop()
                number_of[day] = ring.happen(chance.randint(0, 99))
                ring.shift(number_of[day], day)
            elif news is losses and losses and losses[-1][0] in number_of:
                day, house, crowns = losses.pop()
                ring.amend(ring.lose(number_of[day], house, chance.randint(1, 100)), crowns)
            elif news is losses:
                chance.shuffle(losses)
            if chance.random() < 0.2:
                ring.close()
        return ring

    def answers(self, ring):
        bills = [(day, ring.bills(happening), ring.kept(happening)) for happening, day in ring.happenings()]
        covers = range(len(ring.covers()))
        return bills, ring.borne(), [ring.left(cover) for cover in covers], [ring.due(cover) for cover in covers]

    def test_losses_in_every_order(self):
        losses = [(0, 0, 30), (1, 1, 20), (0, 1, 9), (1, 0, 50)]
        told = {
            str(self.answers(made_ring(3, [SHARE, LAYER, STOP], [15, 12], order)))
            for order in itertools.permutations(losses)
        }
        self.assertEqual(len(told), 1)


if __name__ == "__main__":
    unittest.main()
