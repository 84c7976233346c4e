"""How the rows of a book's text are written, and how they are read."""

from ringcede.errors import BadDeed, BadHouses
from ringcede.terms import THINGS

FIGURES = "0123456789"
MOST_SIGNS = 200


def write_terms(terms):
    """The things of the terms one by one, and each pair of the lines."""
    return [str(thing) for thing in terms[:-1]] + [f"{house}:{line}" for house, line in terms[-1]]


def write_deed(deed):
    if deed[0] == "sign":
        return " ".join(["sign"] + write_terms(deed[1]))
    return " ".join([str(thing) for thing in deed])


def write_rows(houses, deeds):
    """The text of a book with so many houses and these standing deeds."""
    return "\n".join([f"ring {houses}"] + [write_deed(deed) for deed in deeds])


def is_number(thing):
    """True where the text is a number in figures without a needless nought."""
    if thing == "" or not all([sign in FIGURES for sign in thing]):
        return False
    return thing == "0" or thing[0] != "0"


def read_number(thing):
    if not is_number(thing):
        raise BadDeed("a number stands in figures without a needless nought")
    return int(thing)


def read_pair(thing):
    house, colon, line = thing.partition(":")
    # Where there is no colon the line is empty, which is no number either.
    return (read_number(house), read_number(line))


def read_terms(things):
    """The terms whose things stand one by one behind `sign`; whether they can be signed is not judged here."""
    if len(things) == 0 or things[0] not in THINGS:
        raise BadDeed("terms begin with their kind")
    # All things but the lines stand in one place each, so the lines are what is behind them.
    single = THINGS[things[0]] - 1
    numbers = [read_number(thing) for thing in things[1:single]]
    lines = [read_pair(thing) for thing in things[single:]]
    return tuple([things[0]] + numbers + [tuple(lines)])


def read_deed(row):
    """The deed that is written so; whether there is one with so many things is not judged here."""
    if len(row) > MOST_SIGNS:
        raise BadDeed(f"no row has more than {MOST_SIGNS} signs")
    things = row.split(" ")
    if things[0] == "sign":
        return ("sign", read_terms(things[1:]))
    return tuple([things[0]] + [read_number(thing) for thing in things[1:]])


def read_houses(row):
    """The count of houses that the first row of a book tells."""
    things = row.split(" ")
    if len(row) > MOST_SIGNS or len(things) != 2 or things[0] != "ring" or not is_number(things[1]):
        raise BadHouses("the first row is `ring` and a count of houses")
    return int(things[1])
