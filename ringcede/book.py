"""A book that keeps a ring by deeds, which can be taken back, done again, written and read."""

from ringcede.errors import BadDeed, BadHouses, BadText, Nothing, RingError
from ringcede.ring import Ring
from ringcede.texts import read_deed, read_houses, write_rows


def do_sign(ring, deed):
    return ring.sign(deed[1])


def do_end(ring, deed):
    return ring.end(deed[1], deed[2])


def do_happen(ring, deed):
    return ring.happen(deed[1])


def do_shift(ring, deed):
    return ring.shift(deed[1], deed[2])


def do_lose(ring, deed):
    return ring.lose(deed[1], deed[2], deed[3])


def do_amend(ring, deed):
    return ring.amend(deed[1], deed[2])


def do_strike(ring, deed):
    return ring.strike(deed[1])


def do_move(ring, deed):
    return ring.move(deed[1], deed[2])


def do_merge(ring, deed):
    return ring.merge(deed[1], deed[2])


def do_close(ring, deed):
    return ring.close()


DEEDS = {
    "sign": do_sign,
    "end": do_end,
    "happen": do_happen,
    "shift": do_shift,
    "lose": do_lose,
    "amend": do_amend,
    "strike": do_strike,
    "move": do_move,
    "merge": do_merge,
    "close": do_close,
}
# How many things the row has, its first text among them.
COUNTS = {
    "sign": 2,
    "end": 3,
    "happen": 2,
    "shift": 3,
    "lose": 4,
    "amend": 3,
    "strike": 2,
    "move": 3,
    "merge": 3,
    "close": 1,
}


def perform(ring, deed):
    """Does the deed to the ring, and tells what the ring tells."""
    if len(deed) == 0 or deed[0] not in COUNTS or len(deed) != COUNTS[deed[0]]:
        raise BadDeed("there is no deed of such a row")
    act = DEEDS[deed[0]]
    return act(ring, deed)


class Book:
    """The standing deeds and those taken back, each with the ring as it was behind it."""

    def __init__(self, houses):
        self.first_ring = Ring(houses)
        # Pairs of a deed and the ring behind it; no ring that is kept here is changed.
        self.done = []
        self.undone = []

    def last_ring(self):
        """The ring behind all standing deeds."""
        if self.done:
            return self.done[-1][1]
        return self.first_ring

    def do(self, deed):
        """What the ring tells of the deed."""
        ring = self.ring()
        told = perform(ring, deed)
        self.done.append((deed, ring))
        self.undone.clear()
        return told

    def back(self):
        """The last standing deed, which is taken back."""
        if not self.done:
            raise Nothing("no deed stands")
        self.undone.append(self.done.pop())
        return self.undone[-1][0]

    def again(self):
        """The deed that was taken back last, which is done again."""
        if not self.undone:
            raise Nothing("no deed was taken back")
        self.done.append(self.undone.pop())
        return self.done[-1][0]

    def deeds(self):
        return [deed for deed, ring in self.done]

    def ring(self):
        """A Ring that stands as the book's does, of which each goes its own way."""
        return self.last_ring().twin()

    def text(self):
        return write_rows(self.first_ring.houses(), self.deeds())


def begin_book(row):
    """The book without deeds whose text this row is."""
    try:
        return Book(read_houses(row))
    except BadHouses:
        raise BadText(0) from None


def do_row(book, number, row):
    """Does the deed of the row with that number."""
    try:
        book.do(read_deed(row))
    except RingError:
        raise BadText(number) from None


def read_book(text):
    """The book with this text, of which nothing was taken back."""
    rows = text.split("\n")
    book = begin_book(rows[0])
    for number, row in enumerate(rows[1:], start=1):
        do_row(book, number, row)
    return book
