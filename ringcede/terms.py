"""What terms are: the rows by which the covers of a ring are signed."""

from ringcede.covers import is_cover

MOST_WHOLE = 120
LAST_DAY = 99
# How many things the row has, by its first text.
THINGS = {"share": 8, "layer": 8, "stop": 5}


def is_day(day):
    return 0 <= day <= LAST_DAY


def is_stop(terms):
    return terms[0] == "stop"


def cover_of(terms):
    """The cover of a table that the terms tell: a stop is a layer over the end of all."""
    kind, house, by, most = terms[:4]
    return (house, "layer" if is_stop(terms) else kind, by, most, terms[-1])


def are_bounds(whole, first, last):
    """True where some share or layer has this whole and covers these days."""
    return 1 <= whole <= MOST_WHOLE and is_day(first) and is_day(last) and first <= last


def is_terms(houses, terms):
    """True where the row is terms among so many houses."""
    if len(terms) == 0 or terms[0] not in THINGS or len(terms) != THINGS[terms[0]]:
        return False
    if not is_cover(houses, cover_of(terms)) or terms[3] < 1:
        return False
    return is_stop(terms) or are_bounds(terms[4], terms[5], terms[6])
