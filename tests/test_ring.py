"""[13] and [14]: what a ring has and what may be done to it; with [1] as far as it speaks of this."""

import random
import unittest

from helper import do_deed, made_deed, snapshot
from ringcede.errors import (
    BadCrowns, BadDay, BadHouses, BadTerms, Endless, Full, NoCover, NoHappening, NoHouse, NoLoss, RingError, Same,
)
from ringcede.ring import Ring

SHARE = ("share", 0, 50, 10, 60, 10, 20, ((1, 1), (2, 2)))
LAYER = ("layer", 1, 5, 24, 120, 0, 99, ((0, 1),))
STOP = ("stop", 2, 30, 5, ((1, 3), (0, 2)))
BAD_TERMS = (
    (), ("share",), SHARE[:-1], SHARE + (0,), ("cover",) + SHARE[1:], ("stop",) + SHARE[1:], ("share",) + STOP[1:],
    ("share", 3) + SHARE[2:], ("share", 0, 0) + SHARE[3:], ("share", 0, 50, 0) + SHARE[4:],
    SHARE[:4] + (121, 10, 20, ((1, 1),)),
    SHARE[:5] + (20, 10, ((1, 1),)), SHARE[:-1] + (((0, 1),),), SHARE[:-1] + (((3, 1),),), SHARE[:-1] + ((),),
)
BAD_DAYS = (-50, -1, 100, 150)
BAD_CROWNS = (-100, -1, 0, 101, 200)


def filled():
    """A ring of three houses with a cover of each kind, happenings 0 to 2 and losses 0 to 3."""
    ring = Ring(3)
    for terms in (SHARE, LAYER, STOP):
        ring.sign(terms)
    for day in (15, 12, 40):
        ring.happen(day)
    for happening, house, crowns in ((0, 0, 30), (1, 1, 20), (0, 2, 7), (2, 0, 100)):
        ring.lose(happening, house, crowns)
    return ring


class RingCase(unittest.TestCase):

    def assert_refuses(self, error, ring, *deed):
        """The deed is refused so, and changes nothing."""
        before = snapshot(ring)
        with self.subTest(deed=deed):
            self.assertRaises(error, do_deed, ring, deed)
            self.assertEqual(snapshot(ring), before)


class HousesTest(RingCase):

    def test_counts_of_houses(self):
        for houses in range(1, 7):
            ring = Ring(houses)
            self.assertEqual(ring.houses(), houses)
            self.assertEqual(ring.borne(), [0] * houses)

    def test_none_but_the_houses_at_first(self):
        ring = Ring(3)
        for told in (ring.covers(), ring.happenings(), ring.losses(), ring.closings()):
            self.assertEqual(told, [])
            self.assertIs(type(told), list)
        self.assert_refuses(NoCover, ring, "end", 0, 5)
        self.assert_refuses(NoHappening, ring, "shift", 0, 5)
        self.assert_refuses(NoLoss, ring, "strike", 0)

    def test_houses_refused(self):
        for houses in (-1, 0, 7, 8):
            self.assertRaises(BadHouses, Ring, houses)


class SignTest(RingCase):

    def test_each_kind_and_its_number(self):
        ring = Ring(3)
        self.assertEqual([ring.sign(terms) for terms in (SHARE, STOP, LAYER, SHARE)], [0, 1, 2, 3])
        self.assertEqual(ring.covers(), [(SHARE, None), (STOP, None), (LAYER, None), (SHARE, None)])

    def test_terms_refused(self):
        ring = filled()
        for terms in BAD_TERMS:
            self.assert_refuses(BadTerms, ring, "sign", terms)
        self.assertEqual(ring.sign(STOP), 3)

    def test_a_house_alone_has_no_cover(self):
        for terms in (SHARE, STOP, SHARE[:-1] + (((0, 1),),), SHARE[:-1] + ((),)):
            self.assert_refuses(BadTerms, Ring(1), "sign", terms)

    def test_full_at_the_eleventh(self):
        ring = Ring(3)
        kinds = [SHARE, LAYER, STOP] * 3 + [SHARE]
        self.assertEqual([ring.sign(terms) for terms in kinds], list(range(10)))
        for terms in (SHARE, LAYER, STOP):
            self.assert_refuses(Full, ring, "sign", terms)
        for terms in BAD_TERMS:
            self.assert_refuses(BadTerms, ring, "sign", terms)
        # An ended cover still has its number.
        ring.end(0, 0)
        self.assert_refuses(Full, ring, "sign", SHARE)


class EndTest(RingCase):

    def test_by_the_ending_told_last(self):
        ring = filled()
        for day in (50, 50, 12, 0, 99, 13):
            self.assertIsNone(ring.end(0, day))
            self.assertEqual(ring.covers(), [(SHARE, day), (LAYER, None), (STOP, None)])
            self.assertEqual([number for number in range(3) if 0 in ring.numbers(number)],
                             [number for number, when in ((0, 15), (1, 12)) if when < day])
        ring.end(1, 7)
        self.assertEqual(ring.covers(), [(SHARE, 13), (LAYER, 7), (STOP, None)])

    def test_refusals_in_their_order(self):
        ring = filled()
        for cover in (-3, -2, -1, 3, 4, 99):
            for day in BAD_DAYS + (5,):
                self.assert_refuses(NoCover, ring, "end", cover, day)
        for day in BAD_DAYS + (0, 5, 99):
            self.assert_refuses(Endless, ring, "end", 2, day)
        for day in BAD_DAYS:
            self.assert_refuses(BadDay, ring, "end", 0, day)
            self.assert_refuses(BadDay, ring, "end", 1, day)


class HappeningsTest(RingCase):

    def test_numbers_and_order(self):
        ring = Ring(2)
        self.assertEqual([ring.happen(day) for day in (50, 0, 99, 50, 0)], [0, 1, 2, 3, 4])
        self.assertEqual(ring.happenings(), [(1, 0), (4, 0), (0, 50), (3, 50), (2, 99)])

    def test_days_refused(self):
        ring = filled()
        for day in BAD_DAYS:
            self.assert_refuses(BadDay, ring, "happen", day)
        self.assertEqual(ring.happen(0), 3)

    def test_full_at_the_thirteenth_that_stands(self):
        ring = Ring(2)
        self.assertEqual([ring.happen(number % 5) for number in range(12)], list(range(12)))
        self.assert_refuses(Full, ring, "happen", 5)
        for day in BAD_DAYS:
            self.assert_refuses(BadDay, ring, "happen", day)
        ring.merge(3, 11)
        self.assertEqual(ring.happen(7), 12)
        self.assert_refuses(Full, ring, "happen", 7)
        ring.merge(12, 0)
        ring.merge(12, 5)
        self.assertEqual([ring.happen(7), ring.happen(8)], [13, 14])
        self.assert_refuses(Full, ring, "happen", 7)
        self.assertEqual(sorted(number for number, day in ring.happenings()), [1, 2, 3, 4, 6, 7, 8, 9, 10, 12, 13, 14])

    def test_shift(self):
        ring = filled()
        for day, order in (
            (12, [0, 1, 2]), (13, [1, 0, 2]), (40, [1, 0, 2]), (41, [1, 2, 0]), (0, [0, 1, 2]), (99, [1, 2, 0]),
        ):
            self.assertIsNone(ring.shift(0, day))
            self.assertEqual([number for number, when in ring.happenings()], order)
            self.assertIn((0, day), ring.happenings())
            self.assertEqual([row[:2] for row in ring.losses()], [(0, 0), (1, 1), (2, 0), (3, 2)])
        self.assertIsNone(ring.shift(1, 12))
        self.assertIn((1, 12), ring.happenings())

    def test_shift_refused(self):
        ring = filled()
        ring.merge(0, 1)
        for happening in (-3, -2, -1, 1, 3, 4, 99):
            for day in BAD_DAYS + (5,):
                self.assert_refuses(NoHappening, ring, "shift", happening, day)
        for day in BAD_DAYS:
            self.assert_refuses(BadDay, ring, "shift", 0, day)


class LossesTest(RingCase):

    def test_numbers_and_rows(self):
        ring = filled()
        rows = [(0, 0, 0, 30), (1, 1, 1, 20), (2, 0, 2, 7), (3, 2, 0, 100)]
        self.assertEqual(ring.losses(), rows)
        self.assertEqual([ring.lose(2, 1, 1), ring.lose(0, 2, 100)], [4, 5])
        self.assertEqual(ring.losses(), rows + [(4, 2, 1, 1), (5, 0, 2, 100)])

    def test_no_number_is_given_again(self):
        ring = filled()
        ring.strike(3)
        ring.strike(0)
        self.assertEqual(ring.lose(1, 0, 5), 4)
        ring.strike(4)
        self.assertEqual(ring.lose(1, 0, 5), 5)
        self.assertEqual([row[0] for row in ring.losses()], [1, 2, 5])
        ring.merge(0, 2)
        self.assertEqual(ring.happen(9), 3)

    def test_lose_refused_in_order(self):
        ring = filled()
        ring.merge(0, 1)
        for happening in (-2, -1, 1, 3, 99):
            for house in (-1, 0, 3):
                for crowns in BAD_CROWNS + (1,):
                    self.assert_refuses(NoHappening, ring, "lose", happening, house, crowns)
        for house in (-3, -2, -1, 3, 4, 6):
            for crowns in BAD_CROWNS + (1,):
                self.assert_refuses(NoHouse, ring, "lose", 0, house, crowns)
        for crowns in BAD_CROWNS:
            self.assert_refuses(BadCrowns, ring, "lose", 0, 2, crowns)
        self.assertEqual(ring.lose(0, 2, 1), 4)

    def test_full_at_the_thirty_first_that_stands(self):
        ring = filled()
        self.assertEqual([ring.lose(number % 3, number % 3, 1) for number in range(26)], list(range(4, 30)))
        self.assert_refuses(Full, ring, "lose", 0, 0, 1)
        self.assert_refuses(NoHappening, ring, "lose", 3, 3, 0)
        self.assert_refuses(NoHouse, ring, "lose", 0, 3, 0)
        self.assert_refuses(BadCrowns, ring, "lose", 0, 0, 0)
        # Neither of these makes room, but a strike does.
        ring.merge(0, 1)
        ring.move(4, 2)
        ring.amend(4, 9)
        self.assert_refuses(Full, ring, "lose", 0, 0, 1)
        ring.strike(17)
        self.assertEqual(ring.lose(0, 0, 1), 30)
        self.assert_refuses(Full, ring, "lose", 0, 0, 1)

    def test_amend(self):
        ring = filled()
        for crowns in (1, 100, 30, 30):
            self.assertIsNone(ring.amend(0, crowns))
            self.assertEqual(ring.losses(), [(0, 0, 0, crowns), (1, 1, 1, 20), (2, 0, 2, 7), (3, 2, 0, 100)])

    def test_strike(self):
        ring = filled()
        self.assertIsNone(ring.strike(1))
        self.assertEqual(ring.losses(), [(0, 0, 0, 30), (2, 0, 2, 7), (3, 2, 0, 100)])
        self.assert_refuses(NoLoss, ring, "strike", 1)
        self.assert_refuses(NoLoss, ring, "amend", 1, 5)
        self.assert_refuses(NoLoss, ring, "move", 1, 0)

    def test_move(self):
        ring = filled()
        for happening in (1, 1, 2, 0):
            self.assertIsNone(ring.move(2, happening))
            self.assertEqual(ring.losses(), [(0, 0, 0, 30), (1, 1, 1, 20), (2, happening, 2, 7), (3, 2, 0, 100)])

    def test_loss_refused_in_order(self):
        ring = filled()
        ring.strike(2)
        ring.merge(0, 1)
        for loss in (-4, -1, 2, 4, 99):
            for crowns in BAD_CROWNS + (1,):
                self.assert_refuses(NoLoss, ring, "amend", loss, crowns)
            for happening in (-1, 0, 1, 3):
                self.assert_refuses(NoLoss, ring, "move", loss, happening)
            self.assert_refuses(NoLoss, ring, "strike", loss)
        for crowns in BAD_CROWNS:
            self.assert_refuses(BadCrowns, ring, "amend", 0, crowns)
        for happening in (-3, -1, 1, 3, 99):
            self.assert_refuses(NoHappening, ring, "move", 0, happening)


class MergeTest(RingCase):

    def test_all_losses_are_carried_over(self):
        ring = filled()
        self.assertIsNone(ring.merge(1, 0))
        self.assertEqual(ring.happenings(), [(1, 12), (2, 40)])
        self.assertEqual(ring.losses(), [(0, 1, 0, 30), (1, 1, 1, 20), (2, 1, 2, 7), (3, 2, 0, 100)])
        ring.merge(2, 1)
        self.assertEqual(ring.happenings(), [(2, 40)])
        self.assertEqual([row[1] for row in ring.losses()], [2, 2, 2, 2])

    def test_one_without_losses(self):
        ring = filled()
        ring.happen(3)
        losses = ring.losses()
        ring.merge(0, 3)
        self.assertEqual(ring.happenings(), [(1, 12), (0, 15), (2, 40)])
        self.assertEqual(ring.losses(), losses)
        ring.happen(3)
        ring.merge(4, 0)
        self.assertEqual(ring.happenings(), [(4, 3), (1, 12), (2, 40)])
        self.assertEqual([row[1] for row in ring.losses()], [4, 1, 4, 2])

    def test_refusals_in_their_order(self):
        ring = filled()
        ring.merge(0, 1)
        for happening in (-1, 1, 3, 99):
            self.assert_refuses(NoHappening, ring, "merge", happening, 0)
            self.assert_refuses(NoHappening, ring, "merge", 0, happening)
            self.assert_refuses(NoHappening, ring, "merge", happening, happening)
        # Also where the other one has no losses to carry over.
        ring.happen(5)
        for happening in (-1, 1, 4, 99):
            self.assert_refuses(NoHappening, ring, "merge", happening, 3)
            self.assert_refuses(NoHappening, ring, "merge", 3, happening)
        self.assert_refuses(Same, ring, "merge", 3, 3)
        self.assert_refuses(Same, ring, "merge", 0, 0)
        self.assert_refuses(Same, ring, "merge", 2, 2)

    def test_what_stands_no_more(self):
        ring = filled()
        ring.merge(0, 1)
        for ask in (ring.numbers, ring.table, ring.bills, ring.kept):
            self.assertRaises(NoHappening, ask, 1)
        self.assert_refuses(NoHappening, ring, "lose", 1, 0, 5)
        self.assert_refuses(NoHappening, ring, "move", 0, 1)


class ToldListsTest(RingCase):

    def test_changing_them_changes_nothing(self):
        ring = filled()
        ring.close()
        before = snapshot(ring)
        asks = [(ring.covers,), (ring.happenings,), (ring.losses,), (ring.borne,), (ring.closings,)]
        asks += [(ask, 0) for ask in (ring.numbers, ring.bills, ring.kept, ring.due, ring.paid, ring.owed, ring.cost)]
        for ask, *things in asks:
            with self.subTest(ask=ask.__name__):
                told = ask(*things)
                self.assertIs(type(told), list)
                told.append(told[0])
                told[0] = 99
                ask(*things).clear()
                self.assertEqual(snapshot(ring), before)
        ring.closings()[0].append((0, 0, 1))
        ring.closings()[0].clear()
        self.assertEqual(snapshot(ring), before)

    def test_what_a_closing_told(self):
        ring = filled()
        told = ring.close()
        rows = list(told)
        self.assertTrue(rows)
        told.clear()
        self.assertEqual(ring.closings(), [rows])
        ring.close().append((0, 1, 5))
        self.assertEqual(ring.closings(), [rows, []])
        self.assertEqual([ring.owed(cover) for cover in range(3)], [[0, 0], [0], [0, 0]])


class TwinTest(RingCase):

    def test_stands_alike(self):
        chance = random.Random(7)
        ring = filled()
        for number in range(60):
            twin = ring.twin()
            self.assertIsInstance(twin, Ring)
            self.assertEqual(snapshot(twin), snapshot(ring))
            try:
                do_deed(ring, made_deed(chance, ring))
            except RingError:
                pass

    def test_each_goes_its_own_way(self):
        deeds = (
            ("sign", STOP), ("end", 0, 13), ("happen", 11), ("shift", 0, 10), ("lose", 1, 0, 50), ("amend", 0, 99),
            ("strike", 0), ("move", 0, 1), ("merge", 1, 0), ("close",),
        )
        for deed in deeds:
            for asked_ahead in (True, False):
                with self.subTest(deed=deed, asked_ahead=asked_ahead):
                    ring = filled()
                    ring.close()
                    ring.amend(1, 50)
                    before = snapshot(ring.twin())
                    if asked_ahead:
                        snapshot(ring)
                    twin = ring.twin()
                    told = do_deed(twin, deed)
                    after = snapshot(twin)
                    self.assertNotEqual(after, before)
                    self.assertEqual(snapshot(ring), before)
                    # The first goes the same way later, and the twin another one.
                    self.assertEqual(do_deed(ring, deed), told)
                    self.assertEqual(snapshot(ring), after)
                    twin.lose(twin.happen(12), 2, 60)
                    twin.close()
                    self.assertEqual(snapshot(ring), after)

    def test_numbers_are_each_ones_own(self):
        ring = filled()
        twin = ring.twin()
        self.assertEqual([twin.happen(1), twin.happen(1), ring.happen(1)], [3, 4, 3])
        self.assertEqual([twin.lose(0, 0, 1), twin.lose(0, 0, 1), ring.lose(0, 0, 1)], [4, 5, 4])
        self.assertEqual([twin.sign(STOP), twin.sign(STOP), ring.sign(STOP)], [3, 4, 3])
        self.assertEqual([twin.end(0, 5), ring.covers()[0]], [None, (SHARE, None)])

    def test_what_has_been_paid_is_each_ones_own(self):
        ring = filled()
        twin = ring.twin()
        twin.sign(STOP)
        ring.sign(LAYER)
        self.assertEqual([twin.paid(3), ring.paid(3)], [[0, 0], [0]])
        twin.close()
        self.assertEqual([twin.owed(0), twin.paid(0), ring.paid(0)], [[0, 0], twin.due(0), [0, 0]])
        self.assertEqual([len(twin.closings()), ring.closings()], [1, []])
        ring.close()
        ring.close()
        self.assertEqual([len(twin.closings()), len(ring.closings())], [1, 2])


if __name__ == "__main__":
    unittest.main()
