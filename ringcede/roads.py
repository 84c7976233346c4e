"""By which covers crowns come to a cover, and which covers hang on what befell a house."""

from ringcede.least import least
from ringcede.rounds import require_cover
from ringcede.tables import require_house
from ringcede.turns import parts


def reached(table, account, cover):
    """The covers with a bill above nought whose houses bear a crown at least of this cover's bill."""
    covers = table.covers()
    lines = covers[cover][4]
    bearing = [house for (house, line), crowns in zip(lines, parts(lines, account[cover])) if crowns > 0]
    return [number for number, bill in enumerate(account) if bill > 0 and covers[number][0] in bearing]


def first_roads(table, account):
    """The roads of one cover, by their ends: its bill is above nought, and something befell its house."""
    losses = table.losses()
    return {
        number: [number]
        for number, cover in enumerate(table.covers())
        if account[number] > 0 and losses[cover[0]] > 0
    }


def longer_roads(table, account, roads, ends):
    """Roads that are one cover longer than those to these ends, to covers that have none yet."""
    told = {}
    for end in ends:
        for number in reached(table, account, end):
            if number not in roads:
                told[number] = roads[end] + [number]
    return told


def road(table, cover):
    """A road to the cover with as few covers as can be, None where its bill is nought."""
    require_cover(table, cover)
    account = least(table)
    if account[cover] == 0:
        return None
    roads = first_roads(table, account)
    ends = list(roads)
    # All roads of one length are found ahead of the longer ones, so the first to a cover is as
    # short as any; there is one to each bill above nought, for its crowns befell some house.
    while cover not in roads:
        longer = longer_roads(table, account, roads, ends)
        roads.update(longer)
        ends = list(longer)
    return roads[cover]


def hangs(table, house):
    """The covers whose bills in the least account are others where nothing befell the house, rising."""
    require_house(table.houses(), house)
    spared = table.more(house, -table.losses()[house])
    pairs = list(zip(least(table), least(spared)))
    return [number for number, (bill, other) in enumerate(pairs) if bill != other]
