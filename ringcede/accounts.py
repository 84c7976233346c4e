"""When an account agrees, is backed or is enough, and the accounts that agree nearest to others."""

from ringcede.errors import Disagrees, Short, Unbacked
from ringcede.rounds import settle
from ringcede.tables import asked, require_account


def lies_below(one, other):
    """True where no bill of the one account is greater than that of the other."""
    return all([low <= high for low, high in zip(one, other)])


def agrees(table, account):
    """True where each bill is just what its cover asks."""
    return asked(table, account) == account


def backed(table, account):
    """True where no bill is greater than what its cover asks."""
    return lies_below(account, asked(table, account))


def enough(table, account):
    """True where no bill is less than what its cover asks."""
    return lies_below(asked(table, account), account)


def above(table, account):
    """The least account that agrees and below which this one lies."""
    if not backed(table, account):
        raise Unbacked("a bill is greater than what its cover asks")
    return settle(table, account)


def below(table, account):
    """The greatest account that agrees and lies below this one."""
    if not enough(table, account):
        raise Short("a bill is less than what its cover asks")
    return settle(table, account)


def require_agreeing(table, accounts):
    """Refuses where one of the lists is no account, and only then where one doesn't agree."""
    for account in accounts:
        require_account(table, account)
    for account in accounts:
        if not agrees(table, account):
            raise Disagrees("a bill is not what its cover asks")


def joint(table, one, other):
    """The least account that agrees and below which both lie."""
    require_agreeing(table, (one, other))
    # What agrees is asked by the greater bills too, so these are backed.
    return settle(table, [max(bill, another) for bill, another in zip(one, other)])


def meeting(table, one, other):
    """The greatest account that agrees and lies below both."""
    require_agreeing(table, (one, other))
    # No cover asks for more by the lesser bills than by either account, so these are enough.
    return settle(table, [min(bill, another) for bill, another in zip(one, other)])
