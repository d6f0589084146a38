"""The calls that change nothing: value, rounds, through, exposure, group, breaches, holding, fundat, sums."""

from fundrings.reckoning import Reckoning
from fundrings.reckoning import issuers_in
from fundrings.refusals import NOT_THERE
from fundrings.refusals import OUT_OF_RANGE
from fundrings.refusals import within
from fundrings.state import GROUPS
from fundrings.state import ISSUERS
from fundrings.state import MILLION
from fundrings.state import count_units

MOST_ROUNDS = 60


def tell_value(house, i):
    if i not in house.funds:
        return [NOT_THERE]
    reckoning = Reckoning(house.things, house.funds)
    units = count_units(house.funds, i)
    each = reckoning.unit_worth(i)
    worth = units * each // reckoning.divisor
    millionths = each * MILLION // reckoning.divisor
    return [worth, millionths, reckoning.own[i], units, house.funds[i].outside]


def round_behind(funds, own, units, before):
    """What the funds are reckoned at in the round behind the one that came to these numbers."""
    after = list(own)
    for i in funds:
        for j in funds:
            after[i] += funds[i].held[j] * before[j] // units[j]
    return after


def tell_rounds(house, n):
    if not within(n, 0, MOST_ROUNDS):
        return [OUT_OF_RANGE]
    funds = house.funds
    own = Reckoning(house.things, funds).own
    units = {}
    for j in funds:
        units[j] = count_units(funds, j)
    reckoned = [0] * len(own)
    for turn in range(n):
        reckoned = round_behind(funds, own, units, reckoned)
    return [0] + reckoned


def tell_part(house, i, j):
    if i not in house.funds or j not in house.funds:
        return [NOT_THERE]
    reckoning = Reckoning(house.things, house.funds)
    return [count_units(house.funds, i) * reckoning.parts[i][j] * MILLION // reckoning.divisor]


def exposures_of(house, i, issuers):
    """Fund i's exposure to these issuers together, in coins and in millionths of its worth."""
    reckoning = Reckoning(house.things, house.funds)
    exposure = sum([reckoning.unit_exposure(i, issuer) for issuer in issuers])
    worth = reckoning.unit_worth(i)
    coins = count_units(house.funds, i) * exposure // reckoning.divisor
    if worth == 0:
        return [coins, 0]
    return [coins, exposure * MILLION // worth]


def tell_exposure(house, i, issuer):
    if i not in house.funds:
        return [NOT_THERE]
    if not within(issuer, 0, ISSUERS - 1):
        return [OUT_OF_RANGE]
    return exposures_of(house, i, [issuer])


def tell_group(house, i, group):
    if i not in house.funds:
        return [NOT_THERE]
    if not within(group, 0, GROUPS - 1):
        return [OUT_OF_RANGE]
    return exposures_of(house, i, issuers_in(house.groups, group))


def tell_breaches(house, i):
    if i not in house.funds:
        return [NOT_THERE]
    entries = [entry for entry in house.noted if entry[0] == i]
    told = [len(entries)]
    for entry in entries:
        told.extend([entry[1], entry[2], house.noted[entry]])
    return told


def tell_holding(house, i):
    if i not in house.funds:
        return [NOT_THERE]
    return house.funds[i].pieces + house.funds[i].held


def tell_fund(house, i):
    if i not in house.funds:
        return [NOT_THERE]
    fund = house.funds[i]
    return [fund.outside, fund.cash, fund.large, fund.one, fund.together, fund.group]


def tell_sums(house):
    reckoning = Reckoning(house.things, house.funds)
    outside = sum([house.funds[j].outside * reckoning.unit_worth(j) for j in house.funds])
    return [house.day, sum(reckoning.own), outside // reckoning.divisor]
