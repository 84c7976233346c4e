"""The happenings of a ring reckoned in the order of their days, and the end of all behind them."""

from ringcede.bearing import kept
from ringcede.least import least
from ringcede.tables import Table
from ringcede.terms import cover_of, is_stop


def whole_of(terms):
    """What a cover by these terms asks at most in all: a stop asks but once, so that is its most."""
    return terms[3] if is_stop(terms) else terms[4]


def covers_day(terms, ended, day):
    """True where a cover by these terms, ended on a day or on none, covers the happenings of this day."""
    if is_stop(terms):
        return False
    return terms[5] <= day <= terms[6] and (ended is None or day < ended)


def limited(terms, left):
    """The cover of a table by these terms when so much is left of its whole."""
    house, kind, by, most, lines = cover_of(terms)
    return (house, kind, by, min(most, left), lines)


def losses_in(houses, losses, happening):
    """For each house the sum of its losses in the happening."""
    told = [0 for house in range(houses)]
    for number, place, house, crowns in losses:
        if place == happening:
            told[house] += crowns
    return told


class Rest:
    """A table whose bills have come to rest, with the numbers that its covers have in the ring."""

    def __init__(self, numbers, table):
        account = least(table)
        self.ground = table
        self.bill_of = dict(zip(numbers, account))
        self.keeping = kept(table, account)


def reckon_happenings(houses, covers, happenings, losses):
    """For each happening, by its number, its table come to rest."""
    left = [whole_of(terms) for terms, ended in covers]
    told = {}
    for happening, day in happenings:
        numbers = [number for number, (terms, ended) in enumerate(covers) if covers_day(terms, ended, day)]
        rows = [limited(covers[number][0], left[number]) for number in numbers]
        rest = Rest(numbers, Table(houses, rows, losses_in(houses, losses, happening)))
        for number in numbers:
            left[number] -= rest.bill_of[number]
        told[happening] = rest
    return told


def reckon_end(houses, covers, rests):
    """The end of all come to rest, behind the happenings' tables."""
    numbers = [number for number, (terms, ended) in enumerate(covers) if is_stop(terms)]
    rows = [cover_of(covers[number][0]) for number in numbers]
    losses = [sum([rest.keeping[house] for rest in rests]) for house in range(houses)]
    return Rest(numbers, Table(houses, rows, losses))


class Reckoning:
    """What comes of a ring's covers, happenings and losses as they stand; nothing changes it."""

    def __init__(self, houses, covers, happenings, losses):
        self.rest_of = reckon_happenings(houses, covers, happenings, losses)
        self.end_rest = reckon_end(houses, covers, list(self.rest_of.values()))

    def cover_bills(self, cover):
        """All bills of the ring's cover with that number that are above nought."""
        rests = list(self.rest_of.values()) + [self.end_rest]
        return [rest.bill_of[cover] for rest in rests if rest.bill_of.get(cover, 0) > 0]
