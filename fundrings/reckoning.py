"""What the funds are worth and what is looked through to, as whole numbers over one divisor."""

from fundrings.equations import solved
from fundrings.equations import unit_row
from fundrings.state import FUNDS
from fundrings.state import ISSUERS
from fundrings.state import count_units


def unit_equations(funds):
    """A row a fund: its units times its W, less the units held times theirs, is what it has itself."""
    rows = []
    for i in range(FUNDS):
        if i in funds:
            row = [-units for units in funds[i].held]
            row[i] = count_units(funds, i)
        else:
            # A fund that is not there has nothing itself: with any units its W comes out as 0.
            row = unit_row(i, FUNDS)
        rows.append(row)
    return rows


def worth_by_issuer(things, fund):
    sums = [0] * ISSUERS
    for k in things:
        sums[things[k].issuer] += fund.pieces[k] * things[k].price
    return sums


def issuers_in(groups, group):
    return [issuer for issuer in range(ISSUERS) if groups[issuer] == group]


class Reckoning:
    """Of one unit of each fund: its parts of what the funds have themselves.

    All answers of its methods are to be divided by `divisor`, which is above 0.
    """

    def __init__(self, things, funds):
        rows = solved(unit_equations(funds))
        self.divisor = rows[0][0]
        self.parts = [row[FUNDS:] for row in rows]
        self.issued = [[0] * ISSUERS for j in range(FUNDS)]
        self.own = [0] * FUNDS
        for j in funds:
            self.issued[j] = worth_by_issuer(things, funds[j])
            self.own[j] = funds[j].cash + sum(self.issued[j])

    def unit_worth(self, i):
        return sum([self.parts[i][j] * self.own[j] for j in range(FUNDS)])

    def unit_exposure(self, i, issuer):
        return sum([self.parts[i][j] * self.issued[j][issuer] for j in range(FUNDS)])
