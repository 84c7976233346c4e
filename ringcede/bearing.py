"""What each house keeps by an account that agrees, and the house to which one crown more falls."""

from ringcede.accounts import require_agreeing
from ringcede.least import least
from ringcede.tables import burdens


def kept(table, account):
    """What each house keeps: its burden less the bills of its covers."""
    require_agreeing(table, (account,))
    told = burdens(table, account)
    for cover, bill in zip(table.covers(), account):
        told[cover[0]] -= bill
    return told


def falls(table, house):
    """The house to which one crown more falls that this house loses."""
    richer = table.more(house, 1)
    now = kept(table, least(table))
    then = kept(richer, least(richer))
    # One house alone keeps more, so the houses that keep another number are this one.
    return [keeper for keeper in range(table.houses()) if then[keeper] != now[keeper]][0]
