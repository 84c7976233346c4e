"""The least account of a table, and steps that show it."""

from ringcede.rounds import Rounds, settle
from ringcede.tables import asked, nought, require_account


def least(table):
    """The account that agrees and lies below every one that agrees."""
    return settle(table, nought(table))


def steps(table):
    """Steps that show the least account."""
    rounds = Rounds(table)
    told = []
    waiting = rounds.waiting()
    while waiting:
        # No bill falls, so a cover that waits still asks for more when its turn comes.
        for cover in waiting:
            told.append((cover, rounds.ask(cover)))
        waiting = rounds.waiting()
    return told


def stands(table, account, cover, bill):
    """True where the step from the account to this bill of the cover stands."""
    if not 0 <= cover < len(account):
        return False
    return account[cover] < bill <= asked(table, account)[cover]


def shows(table, steps, account):
    """True where the steps show the account."""
    require_account(table, account)
    walked = nought(table)
    for cover, bill in steps:
        if not stands(table, walked, cover, bill):
            return False
        walked[cover] = bill
    return walked == account
