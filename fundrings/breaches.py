"""Breaches of the limits: which there are, when a buying is let, and what is noted."""

from fundrings.reckoning import Reckoning
from fundrings.reckoning import issuers_in
from fundrings.state import GROUPS
from fundrings.state import ISSUERS
from fundrings.state import MILLION

ONE_ISSUER = 1
ALL_LARGE = 2
ONE_GROUP = 3


def is_more(measure, limit, worth):
    return measure * MILLION > limit * worth


def breach_measures(reckoning, groups, fund, i):
    """The breaches of fund i in their order: (kind, which) to the measure of one unit."""
    worth = reckoning.unit_worth(i)
    exposures = [reckoning.unit_exposure(i, issuer) for issuer in range(ISSUERS)]
    measures = {}
    for issuer in range(ISSUERS):
        if is_more(exposures[issuer], fund.one, worth):
            measures[(ONE_ISSUER, issuer)] = exposures[issuer]
    large = sum([exposure for exposure in exposures if is_more(exposure, fund.large, worth)])
    if is_more(large, fund.together, worth):
        measures[(ALL_LARGE, 0)] = large
    for group in range(GROUPS):
        grouped = sum([exposures[issuer] for issuer in issuers_in(groups, group)])
        if is_more(grouped, fund.group, worth):
            measures[(ONE_GROUP, group)] = grouped
    return measures


def is_let(house, funds, i):
    """Whether fund i may do the buying that makes the house's funds into these."""
    before = Reckoning(house.things, house.funds)
    after = Reckoning(house.things, funds)
    worth_before = before.unit_worth(i)
    worth_after = after.unit_worth(i)
    old = breach_measures(before, house.groups, house.funds[i], i)
    new = breach_measures(after, house.groups, funds[i], i)
    for place in new:
        if place not in old:
            return False
        # Both sides are measure by worth; a fund in breach is worth more than 0.
        if new[place] * worth_before > old[place] * worth_after:
            return False
    return True


def note_breaches(house):
    reckoning = Reckoning(house.things, house.funds)
    noted = {}
    for i in sorted(house.funds):
        for place in breach_measures(reckoning, house.groups, house.funds[i], i):
            entry = (i, place[0], place[1])
            noted[entry] = house.noted.get(entry, house.day)
    house.noted = noted
