"""What a cover is, and what it asks of what reaches it."""

from ringcede.errors import BadCover, BadCrowns
from ringcede.turns import MOST_BILL, is_lines

BY_BOUNDS = {"share": (1, 100), "layer": (0, 200)}
MOST_REACH = 99999


def is_measure(kind, by, most):
    """True where some cover has this kind with this by and this most."""
    if kind not in BY_BOUNDS:
        return False
    low, high = BY_BOUNDS[kind]
    return low <= by <= high and 0 <= most <= MOST_BILL


def are_others(houses, house, lines):
    """True where all lines are of houses that there are, none of them the covered one."""
    return all([signer < houses and signer != house for signer, line in lines])


def is_cover(houses, cover):
    """True where the row is a cover among so many houses."""
    if len(cover) != 5:
        return False
    house, kind, by, most, lines = cover
    if not 0 <= house < houses:
        return False
    return is_measure(kind, by, most) and is_lines(lines) and are_others(houses, house, lines)


def wish(kind, by, reach):
    """What a cover would ask if there were no most."""
    if kind == "share":
        return reach * by // 100
    return max(0, reach - by)


def take(kind, by, most, reach):
    """What a cover of this kind asks of what reaches it."""
    if not is_measure(kind, by, most):
        raise BadCover("no cover has this kind with this by and this most")
    if not 0 <= reach <= MOST_REACH:
        raise BadCrowns(f"what reaches a cover is from 0 to {MOST_REACH} crowns")
    return min(most, wish(kind, by, reach))
