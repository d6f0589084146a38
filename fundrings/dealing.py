"""The calls by which pieces, units and coins change hands: buy, sell, subscribe, redeem, issue, cancel."""

from fundrings.breaches import is_let
from fundrings.breaches import note_breaches
from fundrings.reckoning import Reckoning
from fundrings.refusals import NOT_LET
from fundrings.refusals import NOT_THERE
from fundrings.refusals import NO_CASH
from fundrings.refusals import NO_UNIT
from fundrings.refusals import OUT_OF_RANGE
from fundrings.refusals import OWNED_WHOLLY
from fundrings.refusals import TOO_FEW
from fundrings.refusals import TOO_MANY
from fundrings.refusals import within
from fundrings.state import copied_funds
from fundrings.state import count_units
from fundrings.state import is_sound

MOST_DEALT = 1000000
MOST_PIECES = 10000000
MOST_UNITS = 10000000
MOST_MONEY = 1000000000


def settle(house, funds):
    house.funds = funds
    note_breaches(house)


def buy(house, i, k, n):
    if i not in house.funds or k not in house.things:
        return [NOT_THERE]
    if not within(n, 1, MOST_DEALT):
        return [OUT_OF_RANGE]
    cost = n * house.things[k].price
    if house.funds[i].cash < cost:
        return [NO_CASH]
    if house.funds[i].pieces[k] + n > MOST_PIECES:
        return [TOO_MANY]
    funds = copied_funds(house.funds)
    funds[i].cash -= cost
    funds[i].pieces[k] += n
    if not is_let(house, funds, i):
        return [NOT_LET]
    settle(house, funds)
    return [cost]


def sell(house, i, k, n):
    if i not in house.funds or k not in house.things:
        return [NOT_THERE]
    if not within(n, 1, MOST_DEALT):
        return [OUT_OF_RANGE]
    fund = house.funds[i]
    if fund.pieces[k] < n:
        return [TOO_FEW]
    brought = n * house.things[k].price
    fund.cash += brought
    fund.pieces[k] -= n
    note_breaches(house)
    return [brought]


def bought_units(house, j, money):
    """How many new units of fund j the money buys, and what they cost: none where W is 0."""
    reckoning = Reckoning(house.things, house.funds)
    worth = reckoning.unit_worth(j)
    if worth == 0:
        return [0, 0]
    units = money * reckoning.divisor // worth
    # Negated on both sides of the division, what is rounded down is rounded up.
    cost = -((-units * worth) // reckoning.divisor)
    return [units, cost]


def paid_for(house, j, units):
    reckoning = Reckoning(house.things, house.funds)
    return units * reckoning.unit_worth(j) // reckoning.divisor


def has_too_many(house, j, units):
    return count_units(house.funds, j) + units > MOST_UNITS


def subscribe(house, i, j, money):
    if i not in house.funds or j not in house.funds:
        return [NOT_THERE]
    if i == j or not within(money, 1, MOST_MONEY):
        return [OUT_OF_RANGE]
    bought = bought_units(house, j, money)
    units = bought[0]
    cost = bought[1]
    if units == 0:
        return [NO_UNIT]
    if house.funds[i].cash < cost:
        return [NO_CASH]
    if has_too_many(house, j, units):
        return [TOO_MANY]
    funds = copied_funds(house.funds)
    funds[i].cash -= cost
    funds[j].cash += cost
    funds[i].held[j] += units
    if not is_sound(funds):
        return [OWNED_WHOLLY]
    if not is_let(house, funds, i):
        return [NOT_LET]
    settle(house, funds)
    return bought


def redeem(house, i, j, units):
    if i not in house.funds or j not in house.funds:
        return [NOT_THERE]
    if i == j or not within(units, 1, MOST_UNITS):
        return [OUT_OF_RANGE]
    if house.funds[i].held[j] < units:
        return [TOO_FEW]
    paid = paid_for(house, j, units)
    if house.funds[j].cash < paid:
        return [NO_CASH]
    funds = copied_funds(house.funds)
    funds[j].cash -= paid
    funds[i].cash += paid
    funds[i].held[j] -= units
    if not is_sound(funds):
        return [OWNED_WHOLLY]
    settle(house, funds)
    return [paid]


def issue(house, j, money):
    if j not in house.funds:
        return [NOT_THERE]
    if not within(money, 1, MOST_MONEY):
        return [OUT_OF_RANGE]
    bought = bought_units(house, j, money)
    if bought[0] == 0:
        return [NO_UNIT]
    if has_too_many(house, j, bought[0]):
        return [TOO_MANY]
    house.funds[j].outside += bought[0]
    house.funds[j].cash += bought[1]
    note_breaches(house)
    return bought


def cancel(house, j, units):
    if j not in house.funds:
        return [NOT_THERE]
    if not within(units, 1, MOST_UNITS):
        return [OUT_OF_RANGE]
    if house.funds[j].outside < units:
        return [TOO_FEW]
    paid = paid_for(house, j, units)
    if house.funds[j].cash < paid:
        return [NO_CASH]
    funds = copied_funds(house.funds)
    funds[j].cash -= paid
    funds[j].outside -= units
    if not is_sound(funds):
        return [OWNED_WHOLLY]
    settle(house, funds)
    return [paid]
