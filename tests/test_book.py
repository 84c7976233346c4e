"""[19] and [20]: deeds, taking back and doing again; with [1] as far as it speaks of this."""

import random
import unittest

from helper import do_deed, made_deed, snapshot
from ringcede.book import Book
from ringcede.errors import (
    BadCrowns, BadDay, BadDeed, BadHouses, BadTerms, Endless, Full, NoCover, NoHappening, NoHouse, NoLoss, Nothing,
    RingError, Same,
)
from ringcede.ring import Ring

SHARE = ("share", 0, 50, 10, 60, 10, 20, ((1, 1), (2, 2)))
LAYER = ("layer", 1, 5, 24, 120, 0, 99, ((0, 1),))
STOP = ("stop", 2, 30, 5, ((1, 3), (0, 2)))
# Each kind of deed is among them, and what it tells.
DEEDS = (
    (("sign", SHARE), 0), (("sign", LAYER), 1), (("sign", STOP), 2), (("happen", 15), 0), (("happen", 12), 1),
    (("lose", 0, 0, 30), 0), (("lose", 1, 1, 20), 1), (("lose", 1, 2, 80), 2),
    (("close",), [(0, 1, 6), (0, 2, 13), (1, 0, 18), (2, 1, 3), (2, 0, 2)]),
    (("end", 0, 16), None), (("shift", 0, 16), None), (("amend", 1, 4), None), (("move", 2, 0), None),
    (("close",), [(0, 1, -6), (0, 2, -13), (1, 0, -18)]), (("strike", 2), None), (("merge", 1, 0), None),
    (("close",), [(0, 1, 3), (0, 2, 7), (1, 0, 2), (2, 1, -3), (2, 0, -2)]), (("happen", 99), 2),
)
# Rows that are no deeds, none of them handed in with the right count of things.
BAD_DEEDS = [(), ("",), ("ring", 3), ("Sign", SHARE), ("back",), ("again",), ("closes",), ("twin",), ("borne",), (7,)]
for good, answer in DEEDS[:1] + DEEDS[3:4] + DEEDS[5:6] + DEEDS[8:]:
    BAD_DEEDS += [good + (0,), good + (0, 0)] + [good[:many] for many in range(1, len(good))]
# Deeds that a book behind all of DEEDS refuses, and how.
REFUSED = (
    (("sign", SHARE[:-1]), BadTerms), (("sign", ()), BadTerms), (("end", 3, 5), NoCover), (("end", 2, 5), Endless),
    (("end", 0, 100), BadDay), (("happen", -1), BadDay), (("shift", 0, 5), NoHappening), (("shift", 1, 100), BadDay),
    (("lose", 0, 0, 5), NoHappening), (("lose", 1, 3, 5), NoHouse), (("lose", 1, 0, 101), BadCrowns),
    (("amend", 2, 5), NoLoss), (("amend", 0, 0), BadCrowns), (("strike", 2), NoLoss), (("move", 3, 1), NoLoss),
    (("move", 0, 0), NoHappening), (("merge", 1, 0), NoHappening), (("merge", 1, 1), Same),
)


def done(deeds):
    book = Book(3)
    for deed in deeds:
        book.do(deed)
    return book


def all_deeds():
    return [deed for deed, told in DEEDS]


def stand(book):
    """All that a book tells but for what was taken back."""
    return book.deeds(), book.text(), snapshot(book.ring())


def undone(book):
    """The deeds that can be done again, in their order; the book stands as it stood behind this."""
    told = []
    try:
        while True:
            told.append(book.again())
    except Nothing:
        pass
    for deed in reversed(told):
        assert book.back() == deed
    return told


class BookCase(unittest.TestCase):

    def assert_refuses(self, error, book, deed):
        before, again = stand(book), undone(book)
        with self.subTest(deed=deed):
            self.assertRaises(error, book.do, deed)
            self.assertEqual(stand(book), before)
            self.assertEqual(undone(book), again)


class DoTest(BookCase):

    def test_each_deed_tells_what_the_ring_tells(self):
        book, ring = Book(3), Ring(3)
        for number, (deed, told) in enumerate(DEEDS):
            with self.subTest(deed=deed):
                answer = book.do(deed)
                self.assertEqual(answer, told)
                self.assertIs(type(answer), type(told))
                self.assertEqual(do_deed(ring, deed), told)
                self.assertEqual(snapshot(book.ring()), snapshot(ring))
                self.assertEqual(book.deeds(), all_deeds()[:number + 1])

    def test_at_first(self):
        for houses in range(1, 7):
            book = Book(houses)
            self.assertEqual(book.deeds(), [])
            self.assertEqual(snapshot(book.ring()), snapshot(Ring(houses)))
            self.assertIsInstance(book.ring(), Ring)

    def test_houses_refused(self):
        for houses in (-1, 0, 7, 8):
            self.assertRaises(BadHouses, Book, houses)

    def test_rows_that_are_no_deeds(self):
        for book in (Book(3), done(all_deeds())):
            for deed in BAD_DEEDS:
                self.assert_refuses(BadDeed, book, deed)

    def test_a_count_is_judged_ahead_of_what_the_ring_refuses(self):
        book = done(all_deeds())
        for deed, error in REFUSED:
            self.assert_refuses(BadDeed, book, deed + (0,))
            if len(deed) > 1:
                self.assert_refuses(BadDeed, book, deed[:-1])

    def test_what_the_ring_refuses(self):
        book = done(all_deeds())
        for deed, error in REFUSED:
            self.assert_refuses(error, book, deed)

    def test_full(self):
        book = done([("sign", SHARE)] * 10 + [("happen", 5)] * 12 + [("lose", 0, 0, 1)] * 30)
        for deed in (("sign", STOP), ("happen", 5), ("lose", 0, 0, 1)):
            self.assert_refuses(Full, book, deed)
        self.assert_refuses(BadTerms, book, ("sign", ()))
        self.assert_refuses(BadDay, book, ("happen", 100))

    def test_told_lists_are_new_ones(self):
        book = done(all_deeds()[:8])
        told = book.do(("close",))
        before = stand(book)
        told.clear()
        book.deeds().clear()
        book.deeds().append(("close",))
        self.assertEqual(stand(book), before)
        self.assertIs(type(book.deeds()), list)

    def test_a_ring_goes_its_own_way(self):
        book = done(all_deeds()[:9])
        before = stand(book)
        ring, other = book.ring(), book.ring()
        ring.lose(ring.happen(13), 0, 50)
        ring.close()
        ring.end(0, 12)
        self.assertEqual(stand(book), before)
        self.assertEqual(snapshot(other), before[2])
        then = snapshot(ring)
        book.do(("amend", 0, 99))
        book.do(("close",))
        book.back()
        self.assertEqual(snapshot(ring), then)
        self.assertEqual(snapshot(other), before[2])

    def test_two_books_beside_one_another(self):
        one, other = done(all_deeds()[:5]), Book(2)
        before = stand(one)
        other.do(("happen", 3))
        other.back()
        self.assertEqual(stand(one), before)


class BackAndAgainTest(BookCase):

    def test_each_kind_taken_back_and_done_again(self):
        book, stands = Book(3), []
        for deed, told in DEEDS:
            stands.append(stand(book))
            book.do(deed)
            behind = stand(book)
            self.assertNotEqual(behind, stands[-1])
            with self.subTest(deed=deed):
                self.assertEqual(book.back(), deed)
                self.assertEqual(stand(book), stands[-1])
                self.assertEqual(book.again(), deed)
                self.assertEqual(stand(book), behind)
        stands.append(stand(book))
        for deed, before in reversed(list(zip(all_deeds(), stands))):
            self.assertEqual(book.back(), deed)
            self.assertEqual(stand(book), before)
        for deed, behind in zip(all_deeds(), stands[1:]):
            self.assertEqual(book.again(), deed)
            self.assertEqual(stand(book), behind)

    def test_nothing_at_both_ends(self):
        book = Book(3)
        self.assertRaises(Nothing, book.back)
        self.assertRaises(Nothing, book.again)
        book.do(("happen", 5))
        self.assertRaises(Nothing, book.again)
        self.assertEqual(book.back(), ("happen", 5))
        before = stand(book)
        for number in range(3):
            self.assertRaises(Nothing, book.back)
            self.assertEqual(stand(book), before)
        self.assertEqual(book.again(), ("happen", 5))
        behind = stand(book)
        for number in range(3):
            self.assertRaises(Nothing, book.again)
            self.assertEqual(stand(book), behind)

    def test_the_one_taken_back_last_is_done_again(self):
        book = done([("happen", 1), ("happen", 2), ("happen", 3)])
        self.assertEqual([book.back(), book.back()], [("happen", 3), ("happen", 2)])
        self.assertEqual([book.again(), book.back(), book.back()], [("happen", 2), ("happen", 2), ("happen", 1)])
        self.assertEqual([book.again(), book.again(), book.again()], [("happen", 1), ("happen", 2), ("happen", 3)])

    def test_numbers_are_given_as_they_were(self):
        book = done([("happen", 1), ("happen", 2)])
        book.back()
        self.assertEqual(book.do(("happen", 9)), 1)
        self.assertEqual(book.do(("lose", 1, 0, 5)), 0)
        book.back()
        self.assertEqual(book.do(("lose", 0, 2, 5)), 0)
        self.assertEqual(book.ring().losses(), [(0, 0, 2, 5)])

    def test_a_new_deed_lets_all_go(self):
        for many in (1, 2, 5, len(DEEDS)):
            book = done(all_deeds())
            for number in range(many):
                book.back()
            book.do(("happen", 50))
            self.assertRaises(Nothing, book.again)
            self.assertEqual(book.deeds(), all_deeds()[:len(DEEDS) - many] + [("happen", 50)])
            self.assertEqual(book.back(), ("happen", 50))
            self.assertEqual(book.again(), ("happen", 50))
            self.assertRaises(Nothing, book.again)

    def test_also_where_it_is_the_same_deed(self):
        book = done(all_deeds())
        book.back()
        book.back()
        book.do(all_deeds()[-2])
        self.assertRaises(Nothing, book.again)

    def test_a_refused_one_lets_nothing_go(self):
        book = done(all_deeds())
        book.do(("close",))
        book.do(("happen", 3))
        book.back()
        book.back()
        for deed, error in REFUSED:
            self.assert_refuses(error, book, deed)
        for deed in BAD_DEEDS:
            self.assert_refuses(BadDeed, book, deed)
        self.assertEqual([book.again(), book.again()], [("close",), ("happen", 3)])

    def test_told_lists_spoil_nothing_that_was_taken_back(self):
        book = done(all_deeds()[:8])
        told = book.do(("close",))
        before = stand(book)
        book.back()
        told.clear()
        book.again()
        self.assertEqual(stand(book), before)

    def test_books_by_chance(self):
        for seed in range(8):
            chance = random.Random(seed)
            book = Book(chance.randint(2, 5))
            stands, place = [(None, stand(book))], 0
            for number in range(80):
                turn = chance.random()
                if turn < 0.2 and place > 0:
                    self.assertEqual(book.back(), stands[place][0])
                    place -= 1
                elif turn < 0.35 and place + 1 < len(stands):
                    place += 1
                    self.assertEqual(book.again(), stands[place][0])
                else:
                    deed = made_deed(chance, book.ring())
                    ring = book.ring()
                    try:
                        told = do_deed(ring, deed)
                    except RingError as refusal:
                        self.assert_refuses(refusal.__class__, book, deed)
                    else:
                        self.assertEqual(book.do(deed), told)
                        place += 1
                        stands[place:] = [(deed, stand(book))]
                        self.assertEqual(snapshot(ring), stands[place][1][2])
                self.assertEqual(stand(book), stands[place][1])
            self.assertEqual(undone(book), [deed for deed, then in stands[place + 1:]])


if __name__ == "__main__":
    unittest.main()
