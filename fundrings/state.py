"""What the house keeps: things, funds, the issuers' groups, the day and the noted breaches."""

FUNDS = 6
THINGS = 12
ISSUERS = 8
GROUPS = 4
MILLION = 1000000


class Thing:
    def __init__(self, issuer, price):
        self.issuer = issuer
        self.price = price


class Fund:
    """A fund: held[j] are its units of fund j; large, one, together and group are its limits."""

    def __init__(self, outside, cash):
        self.outside = outside
        self.cash = cash
        self.pieces = [0] * THINGS
        self.held = [0] * FUNDS
        self.large = MILLION
        self.one = MILLION
        self.together = MILLION
        self.group = MILLION


class House:
    """All that is there: things and funds by their numbers; noted: (fund, kind, which) to its day."""

    def __init__(self):
        self.begin()

    def begin(self):
        self.day = 0
        self.groups = [0] * ISSUERS
        self.things = {}
        self.funds = {}
        self.noted = {}


def copied_fund(fund):
    twin = Fund(fund.outside, fund.cash)
    twin.pieces = list(fund.pieces)
    twin.held = list(fund.held)
    twin.large = fund.large
    twin.one = fund.one
    twin.together = fund.together
    twin.group = fund.group
    return twin


def copied_funds(funds):
    """Twins of all funds: a dealing is tried on them first, so that a refusal changes nothing."""
    twins = {}
    for i in funds:
        twins[i] = copied_fund(funds[i])
    return twins


def count_units(funds, j):
    return funds[j].outside + sum([holder.held[j] for holder in funds.values()])


def is_sound(funds):
    """Whether no funds own one another wholly.

    Somebody outside must stand behind each fund, straight or through its holders: the funds
    that nobody outside stands behind would be just those that own one another wholly. A fund
    without units is among these.
    """
    waiting = [i for i in funds if funds[i].outside > 0]
    reached = {}
    while waiting:
        i = waiting.pop()
        if i not in reached:
            reached[i] = True
            waiting.extend([j for j in funds if funds[i].held[j] > 0])
    return len(reached) == len(funds)
