"""What the document's words tell of tables, reckoned apart from the program, and tables to try."""

import copy
import itertools
import random
from fractions import Fraction
from functools import lru_cache

from ringcede.tables import Table

# Losses handed on from house 0 to 1 to 2, with no way back.
CHAIN = (
    3,
    [(0, "share", 50, 10, ((1, 1),)), (1, "layer", 1, 3, ((2, 1),))],
    [9, 0, 0],
)
# House 0 has two covers, one behind the other; house 1 hands back to it.
LOOP = (
    3,
    [
        (0, "share", 50, 10, ((1, 1), (2, 2))),
        (0, "layer", 3, 6, ((2, 1),)),
        (1, "share", 100, 4, ((0, 1),)),
    ],
    [10, 0, 2],
)
# A ring of whole shares where nobody lost anything.
IDLE = (
    3,
    [(0, "share", 100, 5, ((1, 1),)), (1, "share", 100, 3, ((2, 1),)), (2, "share", 100, 4, ((0, 1),))],
    [0, 0, 0],
)
# One crown goes round six houses and back again, each time one more, till all bills are full; the
# covers are numbered against their way, so that it takes as long as can be.
LONG_RING = (
    6,
    [(house, "share", 100, 24, (((house + 1) % 6, 1),)) for house in (5, 4, 3, 2, 1, 0)],
    [1, 0, 0, 0, 0, 0],
)
TEN_COVERS = (
    6,
    [(house % 6, "share", 10 * house + 10, 2 * house, (((house + 1) % 6, house + 1),)) for house in range(10)],
    [0, 9999, 17, 0, 250, 1],
)
NO_COVER = (1, [], [7])
NAMED = (CHAIN, LOOP, IDLE, LONG_RING, TEN_COVERS, NO_COVER)


def made_table(chance, most_houses, most_covers, most_bill):
    """A table by chance: whole shares and houses without a loss stand often in it, so that rings spin."""
    houses = chance.randint(2, most_houses)
    covers = []
    for cover in range(chance.randint(2, most_covers)):
        house = chance.choice((cover % houses, chance.randrange(houses)))
        kind = chance.choice(("share", "layer"))
        by = chance.choice((1, 33, 75, 100, 100, 100, 100, 100)) if kind == "share" else chance.choice((0, 0, 1, 1, 2, 8))
        signers = chance.sample([other for other in range(houses) if other != house], chance.randint(1, houses - 1))
        lines = tuple((signer, chance.choice((1, 2, 3, 20))) for signer in signers[:4])
        covers.append((house, kind, by, chance.randint(0, most_bill), lines))
    return houses, covers, [chance.choice((0, 0, 0, 0, 1, 1, 1, 2, 9, 30)) for house in range(houses)]


def made_tables(many, most_houses, most_covers, most_bill):
    chance = random.Random(most_houses)
    return [made_table(chance, most_houses, most_covers, most_bill) for number in range(many)]


def small_tables():
    """Tables with so few accounts that all of them can be tried."""
    return [CHAIN, IDLE, NO_COVER] + made_tables(80, 5, 4, 3) + made_tables(200, 2, 4, 3) + made_tables(100, 3, 5, 2)


def great_tables():
    return list(NAMED) + made_tables(40, 6, 10, 24)


@lru_cache(maxsize=None)
def told_parts(lines, crowns):
    """The parts of a bill by the very words of [2], with true fractions."""
    borne = [0] * len(lines)
    for crown in range(crowns):
        fractions = [Fraction(have + 1, line) for have, (house, line) in zip(borne, lines)]
        borne[fractions.index(min(fractions))] += 1
    return tuple(borne)


def told_burdens(plain, account):
    """[5]: what befell each house, and what falls to it of the account's bills."""
    houses, covers, losses = plain
    told = list(losses)
    for cover, bill in zip(covers, account):
        for (house, line), crowns in zip(cover[4], told_parts(cover[4], bill)):
            told[house] += crowns
    return told


def told_asked(plain, account):
    """[5]: what each cover asks, of each house's covers one behind another."""
    houses, covers, losses = plain
    told = [None] * len(covers)
    for house, burden in enumerate(told_burdens(plain, account)):
        reach = burden
        for number, (covered, kind, by, most, lines) in enumerate(covers):
            if covered == house:
                wish = int(Fraction(reach * by, 100)) if kind == "share" else max(0, reach - by)
                told[number] = min(wish, most)
                reach -= told[number]
    return told


def all_accounts(plain):
    return [list(bills) for bills in itertools.product(*[range(cover[3] + 1) for cover in plain[1]])]


def agreeing(plain):
    """All accounts that agree, by trying every one."""
    return [account for account in all_accounts(plain) if told_asked(plain, account) == account]


def lies_below(one, other):
    return all(low <= high for low, high in zip(one, other, strict=True))


def told_least(plain):
    """[7]: the bills as they go round by the words, from nought till no cover asks for more."""
    bills = [0] * len(plain[1])
    while told_asked(plain, bills) != bills:
        bills = told_asked(plain, bills)
    return bills


def told_kept(plain, account):
    """[11]: the burden of each house less the bills of its covers."""
    burdens = told_burdens(plain, account)
    return [
        burden - sum(bill for cover, bill in zip(plain[1], account) if cover[0] == house)
        for house, burden in enumerate(burdens)
    ]


def with_loss(plain, house, crowns):
    """The table where so much befell the house."""
    losses = list(plain[2])
    losses[house] = crowns
    return plain[0], plain[1], losses


def bad_accounts(plain):
    """Lists that are no accounts of the table, each of them wrong in one thing."""
    mosts = [cover[3] for cover in plain[1]]
    told = [mosts + [0], [0] * len(mosts) + [0]]
    for place, most in enumerate(mosts):
        told.append(mosts[:place] + mosts[place + 1:])
        for bill in (-1, -30, most + 1, most + 30):
            told.append(mosts[:place] + [bill] + mosts[place + 1:])
            told.append([0] * place + [bill] + [0] * (len(mosts) - place - 1))
    return told


def table(plain):
    return Table(*plain)


def told_cover(terms, most):
    """The row of a table for a cover by these terms."""
    return terms[1], "layer" if terms[0] == "stop" else terms[0], terms[2], most, terms[-1]


class PlainRing:
    """[15] to [18]: all that comes of a ring, reckoned anew by the words from what the ring lists."""

    def __init__(self, houses, covers, happenings, losses):
        self.houses, self.covers, self.losses = houses, covers, losses
        self.plains, self.numbers, self.bills, self.kept = {}, {}, {}, {}
        self.used = [0] * len(covers)
        for day, happening in sorted((day, happening) for happening, day in happenings):
            self.reckon(happening, day)
        self.reckon_end()

    def reckon(self, happening, day):
        numbers = [
            number for number, (terms, ended) in enumerate(self.covers)
            if terms[0] != "stop" and terms[5] <= day <= terms[6] and not (ended is not None and day >= ended)
        ]
        terms = [self.covers[number][0] for number in numbers]
        covers = [told_cover(row, min(row[3], row[4] - self.used[number])) for number, row in zip(numbers, terms)]
        befell = [
            sum(crowns for loss, place, house, crowns in self.losses if (place, house) == (happening, each))
            for each in range(self.houses)
        ]
        self.plains[happening] = (self.houses, covers, befell)
        self.numbers[happening] = numbers
        account = told_least(self.plains[happening])
        self.kept[happening] = told_kept(self.plains[happening], account)
        self.bills[happening] = [0] * len(self.covers)
        for number, bill in zip(numbers, account):
            self.bills[happening][number] = bill
            self.used[number] += bill

    def reckon_end(self):
        stops = [number for number, (terms, ended) in enumerate(self.covers) if terms[0] == "stop"]
        covers = [told_cover(self.covers[number][0], self.covers[number][0][3]) for number in stops]
        befell = [sum(kept[house] for kept in self.kept.values()) for house in range(self.houses)]
        self.end = (self.houses, covers, befell)
        account = told_least(self.end)
        self.borne = told_kept(self.end, account)
        self.stop_bills = dict(zip(stops, account))

    def left(self, number):
        terms = self.covers[number][0]
        return terms[3] - self.stop_bills[number] if terms[0] == "stop" else terms[4] - self.used[number]

    def due(self, number):
        bills = [bills[number] for bills in self.bills.values()] + [self.stop_bills.get(number, 0)]
        lines = self.covers[number][0][-1]
        return [sum(told_parts(lines, bill)[place] for bill in bills) for place in range(len(lines))]


def plain_ring(ring):
    return PlainRing(ring.houses(), ring.covers(), ring.happenings(), ring.losses())


def plain_table(told):
    return told.houses(), told.covers(), told.losses()


def snapshot(ring):
    """All that a ring tells, costs aside, apart from the lists that it told."""
    covers = range(len(ring.covers()))
    happenings = [happening for happening, day in ring.happenings()]
    return copy.deepcopy({
        "houses": ring.houses(), "covers": ring.covers(), "happenings": ring.happenings(), "losses": ring.losses(),
        "numbers": {happening: ring.numbers(happening) for happening in happenings},
        "tables": {happening: plain_table(ring.table(happening)) for happening in happenings},
        "bills": {happening: ring.bills(happening) for happening in happenings},
        "kept": {happening: ring.kept(happening) for happening in happenings},
        "end_table": plain_table(ring.end_table()), "borne": ring.borne(),
        "left": [ring.left(cover) for cover in covers], "due": [ring.due(cover) for cover in covers],
        "paid": [ring.paid(cover) for cover in covers], "owed": [ring.owed(cover) for cover in covers],
        "closings": ring.closings(),
    })


def made_terms(chance, houses):
    """Terms by chance: they often hand on much, over many days, so that rings go round and wholes are used up."""
    house = chance.randrange(houses)
    signers = chance.sample([other for other in range(houses) if other != house], chance.randint(1, min(4, houses - 1)))
    lines = tuple((signer, chance.choice((1, 2, 3, 20))) for signer in signers)
    kind = chance.choice(("share", "share", "layer", "layer", "stop"))
    by = chance.choice((20, 50, 100, 100)) if kind == "share" else chance.choice((0, 0, 5, 20, 60))
    if kind == "stop":
        return kind, house, by, chance.randint(1, 24), lines
    first = chance.choice((0, 0, 0, 5))
    return kind, house, by, chance.randint(1, 24), chance.randint(1, 60), first, chance.randint(first, 20), lines


def made_deed(chance, ring):
    """A deed by chance that the ring mostly does, and now and then refuses."""
    houses, covers = ring.houses(), len(ring.covers())
    happening = chance.choice([happening for happening, day in ring.happenings()] or [0])
    other = chance.choice([happening for happening, day in ring.happenings()] or [1])
    loss = chance.choice([row[0] for row in ring.losses()] or [0])
    day, crowns = chance.randint(0, 20), chance.choice((1, 3, 10, 30, 100))
    if covers == 0 or chance.random() < 0.15:
        return "sign", made_terms(chance, houses)
    return chance.choice((
        ("end", chance.randrange(covers), chance.choice((day, 20, 99))), ("happen", day), ("happen", day),
        ("shift", happening, day),
        ("lose", happening, chance.randrange(houses), crowns), ("lose", happening, chance.randrange(houses), crowns),
        ("lose", happening, chance.randrange(houses), crowns), ("lose", happening, chance.randrange(houses), crowns),
        ("amend", loss, crowns), ("strike", loss), ("move", loss, happening), ("merge", happening, other), ("close",),
    ))


def do_deed(ring, deed):
    """Does the deed straight to a ring: its name is the method's."""
    return getattr(ring, deed[0])(*deed[1:])
