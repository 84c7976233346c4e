"""What a table is, and what its houses bear and its covers ask by an account of it."""

from ringcede.covers import is_cover, take
from ringcede.errors import BadAccount, BadCover, BadHouses, BadLosses, NoHouse
from ringcede.turns import LAST_HOUSE, bearers

MOST_COVERS = 10
MOST_LOSS = 9999


def require_houses(houses):
    if not 1 <= houses <= LAST_HOUSE + 1:
        raise BadHouses(f"there are 1 to {LAST_HOUSE + 1} houses")


def require_house(houses, house):
    if not 0 <= house < houses:
        raise NoHouse(f"there is no house {house} among {houses}")


def require_covers(houses, covers):
    if len(covers) > MOST_COVERS:
        raise BadCover(f"a table has at most {MOST_COVERS} covers")
    for number, cover in enumerate(covers):
        if not is_cover(houses, cover):
            raise BadCover(f"row {number} is no cover among so many houses")


def require_losses(houses, losses):
    if len(losses) != houses:
        raise BadLosses("a table has one loss for each house")
    if not all([0 <= crowns <= MOST_LOSS for crowns in losses]):
        raise BadLosses(f"to each house befell 0 to {MOST_LOSS} crowns")


class Table:
    """A count of houses, their covers, and what befell each house."""

    def __init__(self, houses, covers, losses):
        require_houses(houses)
        require_covers(houses, covers)
        require_losses(houses, losses)
        self.house_count = houses
        self.cover_rows = list(covers)
        self.befallen = list(losses)
        # A bill's crowns fall to the same houses whatever the account is, so they are
        # counted out once: a lesser bill is the beginning of a greater one.
        self.crown_bearers = [bearers(lines, most) for house, kind, by, most, lines in covers]

    def houses(self):
        return self.house_count

    def covers(self):
        return list(self.cover_rows)

    def losses(self):
        return list(self.befallen)

    def mosts(self):
        return [most for house, kind, by, most, lines in self.cover_rows]

    def more(self, house, crowns):
        """Another Table, in which so many crowns more befell the house."""
        require_house(self.house_count, house)
        losses = self.losses()
        losses[house] += crowns
        return Table(self.house_count, self.cover_rows, losses)


def nought(table):
    """The account without a crown."""
    return [0 for most in table.mosts()]


def require_account(table, account):
    mosts = table.mosts()
    if len(account) != len(mosts):
        raise BadAccount("an account has one bill for each cover")
    if not all([0 <= bill <= most for bill, most in zip(account, mosts)]):
        raise BadAccount("a bill is from 0 to the most of its cover")


def burdens(table, account):
    """The burden of each house by the account."""
    require_account(table, account)
    told = table.losses()
    for houses, bill in zip(table.crown_bearers, account):
        for house in houses[:bill]:
            told[house] += 1
    return told


def asked(table, account):
    """What each cover asks by the account."""
    left = burdens(table, account)
    told = []
    for house, kind, by, most, lines in table.covers():
        bill = take(kind, by, most, left[house])
        left[house] -= bill
        told.append(bill)
    return told
