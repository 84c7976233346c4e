"""Bills that go round till no cover asks for more."""

from ringcede.errors import NoCover
from ringcede.tables import asked, nought


def require_cover(table, cover):
    if not 0 <= cover < len(table.covers()):
        raise NoCover(f"the table has no cover {cover}")


class Rounds:
    """The bills of a table's covers, nought at first, of which one is asked at a time."""

    def __init__(self, table):
        self.ground = table
        self.standing = nought(table)

    def ask(self, cover):
        """The cover's bill, which is now what it asks by the account as it is."""
        require_cover(self.ground, cover)
        bill = asked(self.ground, self.standing)[cover]
        self.standing[cover] = bill
        return bill

    def account(self):
        return list(self.standing)

    def waiting(self):
        """The covers that ask for more than their bills, rising."""
        wanted = asked(self.ground, self.standing)
        return [cover for cover, bill in enumerate(self.standing) if wanted[cover] > bill]

    def twin(self):
        """Another Rounds that stands alike, of which each goes its own way."""
        other = Rounds(self.ground)
        other.standing = self.account()
        return other


def settle(table, account):
    """The account that agrees to which one that is backed rises, or one that is enough falls."""
    # What the covers ask grows with the account, so the bills move one way alone, and
    # the first account that agrees on that way is the nearest one.
    bills = account
    wanted = asked(table, bills)
    while wanted != bills:
        bills = wanted
        wanted = asked(table, bills)
    return wanted
