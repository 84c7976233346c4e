"""A ring: houses, covers by terms, happenings and losses, and what is paid of its covers."""

from ringcede.days import Reckoning, whole_of
from ringcede.errors import BadCrowns, BadDay, BadTerms, Endless, Full, NoCover, NoHappening, NoLoss, Same
from ringcede.tables import MOST_COVERS, require_house, require_houses
from ringcede.terms import LAST_DAY, is_day, is_stop, is_terms
from ringcede.turns import parts

MOST_HAPPENINGS = 12
MOST_LOSSES = 30
MOST_CROWNS = 100


def require_day(day):
    if not is_day(day):
        raise BadDay(f"days are from 0 to {LAST_DAY}")


def require_crowns(crowns):
    if not 1 <= crowns <= MOST_CROWNS:
        raise BadCrowns(f"a loss has 1 to {MOST_CROWNS} crowns")


class Ring:
    """What stands by the deeds that were done, and what comes of it."""

    def __init__(self, houses):
        require_houses(houses)
        self.house_count = houses
        # Pairs of terms and the day on which the cover was ended, or None.
        self.signed = []
        self.day_of = {}
        # For each standing loss its happening, its house and its crowns.
        self.loss_rows = {}
        self.next_happening = 0
        self.next_loss = 0
        self.paid_parts = []
        self.told_closings = []
        # The reckoning takes long, so it is kept till a deed changes what it was made of.
        self.reckoning = None

    def twin(self):
        """Another Ring that stands alike, of which each goes its own way."""
        other = Ring(self.house_count)
        other.signed = list(self.signed)
        other.day_of = dict(self.day_of)
        other.loss_rows = dict(self.loss_rows)
        other.next_happening = self.next_happening
        other.next_loss = self.next_loss
        # What follows is never changed, but others take its place, so both rings may have the same:
        # a book keeps a twin for each deed, and the closings grow long.
        other.paid_parts = self.paid_parts
        other.told_closings = self.told_closings
        other.reckoning = self.reckoning
        return other

    def require_signed(self, cover):
        if not 0 <= cover < len(self.signed):
            raise NoCover(f"the ring has no cover {cover}")

    def require_happening(self, happening):
        if happening not in self.day_of:
            raise NoHappening(f"no happening {happening} stands")

    def require_loss(self, loss):
        if loss not in self.loss_rows:
            raise NoLoss(f"no loss {loss} stands")

    def terms_of(self, cover):
        self.require_signed(cover)
        return self.signed[cover][0]

    def sign(self, terms):
        """Signs a cover by these terms, and tells its number."""
        if not is_terms(self.house_count, terms):
            raise BadTerms("no cover is signed by such a row")
        if len(self.signed) == MOST_COVERS:
            raise Full(f"a ring has at most {MOST_COVERS} covers")
        self.signed.append((terms, None))
        self.paid_parts = self.paid_parts + [[0 for pair in terms[-1]]]
        self.reckoning = None
        return len(self.signed) - 1

    def end(self, cover, day):
        """Ends a share or a layer: it covers no happening of that day or of a later one."""
        terms = self.terms_of(cover)
        if is_stop(terms):
            raise Endless(f"cover {cover} is a stop")
        require_day(day)
        self.signed[cover] = (terms, day)
        self.reckoning = None

    def happen(self, day):
        """Tells the number of a new happening."""
        require_day(day)
        if len(self.day_of) == MOST_HAPPENINGS:
            raise Full(f"at most {MOST_HAPPENINGS} happenings stand")
        happening = self.next_happening
        self.day_of[happening] = day
        self.next_happening += 1
        self.reckoning = None
        return happening

    def shift(self, happening, day):
        """Shifts a happening to another day."""
        self.require_happening(happening)
        require_day(day)
        self.day_of[happening] = day
        self.reckoning = None

    def lose(self, happening, house, crowns):
        """Tells the number of a new loss."""
        self.require_happening(happening)
        require_house(self.house_count, house)
        require_crowns(crowns)
        if len(self.loss_rows) == MOST_LOSSES:
            raise Full(f"at most {MOST_LOSSES} losses stand")
        loss = self.next_loss
        self.loss_rows[loss] = (happening, house, crowns)
        self.next_loss += 1
        self.reckoning = None
        return loss

    def amend(self, loss, crowns):
        """Gives a loss other crowns."""
        self.require_loss(loss)
        require_crowns(crowns)
        happening, house, before = self.loss_rows[loss]
        self.loss_rows[loss] = (happening, house, crowns)
        self.reckoning = None

    def strike(self, loss):
        """Strikes a loss, which stands no more."""
        self.require_loss(loss)
        self.loss_rows.pop(loss)
        self.reckoning = None

    def move(self, loss, happening):
        """Moves a loss to another happening."""
        self.require_loss(loss)
        self.require_happening(happening)
        before, house, crowns = self.loss_rows[loss]
        self.loss_rows[loss] = (happening, house, crowns)
        self.reckoning = None

    def merge(self, one, other):
        """Makes all losses of the other happening losses of the one; the other stands no more."""
        self.require_happening(one)
        self.require_happening(other)
        if one == other:
            raise Same(f"happening {one} is one with itself")
        for loss in list(self.loss_rows):
            if self.loss_rows[loss][0] == other:
                self.move(loss, one)
        self.day_of.pop(other)
        self.reckoning = None

    def close(self):
        """Pays all that is due, and tells it as rows (cover, house, crowns)."""
        rows = []
        for cover, (terms, ended) in enumerate(self.signed):
            for (house, line), crowns in zip(terms[-1], self.owed(cover)):
                if crowns != 0:
                    rows.append((cover, house, crowns))
        self.paid_parts = [self.due(cover) for cover in range(len(self.signed))]
        self.told_closings = self.told_closings + [list(rows)]
        return rows

    def houses(self):
        return self.house_count

    def covers(self):
        return list(self.signed)

    def happenings(self):
        """Pairs (number, day), in the order in which they are reckoned."""
        return sorted(self.day_of.items(), key=lambda pair: (pair[1], pair[0]))

    def losses(self):
        """Rows (number, happening, house, crowns), by their numbers."""
        return [(loss, row[0], row[1], row[2]) for loss, row in sorted(self.loss_rows.items())]

    def reckoned(self):
        """What comes of the ring as it stands."""
        if self.reckoning is None:
            self.reckoning = Reckoning(self.house_count, self.signed, self.happenings(), self.losses())
        return self.reckoning

    def rest_in(self, happening):
        """The table of the happening come to rest."""
        self.require_happening(happening)
        return self.reckoned().rest_of[happening]

    def numbers(self, happening):
        """The numbers of the covers in the table of the happening, rising."""
        return list(self.rest_in(happening).bill_of)

    def table(self, happening):
        return self.rest_in(happening).ground

    def bills(self, happening):
        """The bill of each cover of the ring in the happening."""
        rest = self.rest_in(happening)
        return [rest.bill_of.get(cover, 0) for cover in range(len(self.signed))]

    def kept(self, happening):
        """What each house keeps in the table of the happening."""
        return list(self.rest_in(happening).keeping)

    def left(self, cover):
        """What is left of the cover's whole behind all happenings, of a stop's most behind the end."""
        return whole_of(self.terms_of(cover)) - sum(self.reckoned().cover_bills(cover))

    def end_table(self):
        """The table of the end of all, in which each house has befallen what it keeps in all happenings."""
        return self.reckoned().end_rest.ground

    def borne(self):
        """What each house bears: what it keeps in the end of all."""
        return list(self.reckoned().end_rest.keeping)

    def due(self, cover):
        """For each pair of the cover's lines the crowns that fall to it, of each bill by itself."""
        lines = self.terms_of(cover)[-1]
        told = [0 for pair in lines]
        for bill in self.reckoned().cover_bills(cover):
            told = [crowns + part for crowns, part in zip(told, parts(lines, bill))]
        return told

    def paid(self, cover):
        """For each pair of the cover's lines what has been paid."""
        self.require_signed(cover)
        return list(self.paid_parts[cover])

    def owed(self, cover):
        """For each pair of the cover's lines what is due less what has been paid."""
        return [crowns - part for crowns, part in zip(self.due(cover), self.paid(cover))]

    def closings(self):
        """The lists that closings told, in their order."""
        return [list(rows) for rows in self.told_closings]

    def cost(self, loss):
        """For each house what it bears less what it would bear if the loss did not stand."""
        spared = self.twin()
        spared.strike(loss)
        return [crowns - other for crowns, other in zip(self.borne(), spared.borne())]
