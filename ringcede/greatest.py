"""The greatest account of a table, and what a ring of covers could go on asking of itself."""

from ringcede.least import least
from ringcede.rounds import settle


def greatest(table):
    """The account that agrees and below which every one that agrees lies."""
    return settle(table, table.mosts())


def spin(table):
    """For each cover its bill in the greatest account less that in the least one."""
    return [high - low for high, low in zip(greatest(table), least(table))]
