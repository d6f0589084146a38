"""The calls that tell the house what is there: clear, thing, price, issuer, fund, limits, tick."""

from fundrings.breaches import note_breaches
from fundrings.refusals import NOT_THERE
from fundrings.refusals import OUT_OF_RANGE
from fundrings.refusals import THERE_ALREADY
from fundrings.refusals import TOO_MANY
from fundrings.refusals import within
from fundrings.state import FUNDS
from fundrings.state import GROUPS
from fundrings.state import ISSUERS
from fundrings.state import MILLION
from fundrings.state import THINGS
from fundrings.state import Fund
from fundrings.state import Thing

MOST_PRICE = 1000000
MOST_OUTSIDE = 1000000
MOST_CASH = 1000000000
MOST_DAYS = 1000
LAST_DAY = 1000000


def clear_house(house):
    house.begin()
    return [0]


def add_thing(house, k, issuer, price):
    if not (within(k, 0, THINGS - 1) and within(issuer, 0, ISSUERS - 1) and within(price, 0, MOST_PRICE)):
        return [OUT_OF_RANGE]
    if k in house.things:
        return [THERE_ALREADY]
    house.things[k] = Thing(issuer, price)
    return [0]


def set_price(house, k, price):
    if k not in house.things:
        return [NOT_THERE]
    if not within(price, 0, MOST_PRICE):
        return [OUT_OF_RANGE]
    before = house.things[k].price
    house.things[k].price = price
    note_breaches(house)
    return [before]


def set_group(house, issuer, group):
    if not (within(issuer, 0, ISSUERS - 1) and within(group, 0, GROUPS - 1)):
        return [OUT_OF_RANGE]
    before = house.groups[issuer]
    house.groups[issuer] = group
    note_breaches(house)
    return [before]


def add_fund(house, i, outside, cash):
    if not (within(i, 0, FUNDS - 1) and within(outside, 1, MOST_OUTSIDE) and within(cash, 0, MOST_CASH)):
        return [OUT_OF_RANGE]
    if i in house.funds:
        return [THERE_ALREADY]
    house.funds[i] = Fund(outside, cash)
    return [0]


def set_limits(house, i, limits):
    """The limits are four: large, one, all together, group."""
    if i not in house.funds:
        return [NOT_THERE]
    if not all([within(limit, 0, MILLION) for limit in limits]):
        return [OUT_OF_RANGE]
    fund = house.funds[i]
    fund.large = limits[0]
    fund.one = limits[1]
    fund.together = limits[2]
    fund.group = limits[3]
    note_breaches(house)
    return [0]


def tick(house, n):
    if not within(n, 1, MOST_DAYS):
        return [OUT_OF_RANGE]
    if house.day + n > LAST_DAY:
        return [TOO_MANY]
    house.day += n
    return [house.day]
