"""How the houses of a cover's lines bear a bill, crown by crown."""

from ringcede.errors import BadCrowns, BadLines

MOST_PAIRS = 4
LAST_HOUSE = 5
LEAST_LINE = 1
MOST_LINE = 20
MOST_BILL = 24


def is_lines(lines):
    """True where a tuple of pairs of numbers is the lines of some cover."""
    if not 1 <= len(lines) <= MOST_PAIRS:
        return False
    if len({house for house, line in lines}) < len(lines):
        return False
    return all([0 <= house <= LAST_HOUSE and LEAST_LINE <= line <= MOST_LINE for house, line in lines])


def require_lines(lines):
    if not is_lines(lines):
        raise BadLines("lines are one to four pairs of a house from 0 to 5, none twice, and a line from 1 to 20")


def next_place(lines, borne):
    """The place of the pair to which the next crown falls, by what each pair bears already."""
    best = 0
    for place in range(1, len(lines)):
        # Fractions are weighed crosswise, so that all numbers stay whole; an equal one
        # doesn't displace the best, for of equal ones the first in the lines bears.
        if (borne[place] + 1) * lines[best][1] < (borne[best] + 1) * lines[place][1]:
            best = place
    return best


def bearers(lines, crowns):
    """The houses to which the crowns of a bill fall, from the first crown on."""
    borne = [0 for pair in lines]
    told = []
    for crown in range(crowns):
        place = next_place(lines, borne)
        borne[place] += 1
        told.append(lines[place][0])
    return told


def parts(lines, crowns):
    """The crowns that fall to each pair of the lines of a bill."""
    require_lines(lines)
    if not 0 <= crowns <= MOST_BILL:
        raise BadCrowns(f"a bill has 0 to {MOST_BILL} crowns")
    told = bearers(lines, crowns)
    return [told.count(house) for house, line in lines]


def bearer(lines, crown):
    """The house to which the crown with that number, from 1 on, falls."""
    require_lines(lines)
    if not 1 <= crown <= MOST_BILL:
        raise BadCrowns(f"the crowns of a bill are numbered from 1 to {MOST_BILL}")
    return bearers(lines, crown)[-1]
