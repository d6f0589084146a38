"""The way in: a list of calls, answered in order by a new house."""

from fundrings.dealing import buy
from fundrings.dealing import cancel
from fundrings.dealing import issue
from fundrings.dealing import redeem
from fundrings.dealing import sell
from fundrings.dealing import subscribe
from fundrings.settings import add_fund
from fundrings.settings import add_thing
from fundrings.settings import clear_house
from fundrings.settings import set_group
from fundrings.settings import set_limits
from fundrings.settings import set_price
from fundrings.settings import tick
from fundrings.state import House
from fundrings.telling import tell_breaches
from fundrings.telling import tell_exposure
from fundrings.telling import tell_fund
from fundrings.telling import tell_group
from fundrings.telling import tell_holding
from fundrings.telling import tell_part
from fundrings.telling import tell_rounds
from fundrings.telling import tell_sums
from fundrings.telling import tell_value

CLEAR = 0
THING = 1
PRICE = 2
ISSUER = 3
FUND = 4
LIMITS = 5
BUY = 6
SELL = 7
SUBSCRIBE = 8
REDEEM = 9
ISSUE = 10
CANCEL = 11
TICK = 12
VALUE = 13
ROUNDS = 14
THROUGH = 15
EXPOSURE = 16
GROUP = 17
BREACHES = 18
HOLDING = 19
FUNDAT = 20

# How many numbers stand behind a call's own number, from CLEAR on.
LENGTHS = (0, 3, 2, 2, 3, 5, 3, 3, 3, 3, 2, 2, 1, 1, 1, 2, 2, 2, 1, 1, 1, 0)


def answer_setting(house, number, given):
    if number == CLEAR:
        return clear_house(house)
    if number == THING:
        return add_thing(house, given[0], given[1], given[2])
    if number == PRICE:
        return set_price(house, given[0], given[1])
    if number == ISSUER:
        return set_group(house, given[0], given[1])
    if number == FUND:
        return add_fund(house, given[0], given[1], given[2])
    return set_limits(house, given[0], given[1:])


def answer_dealing(house, number, given):
    if number == BUY:
        return buy(house, given[0], given[1], given[2])
    if number == SELL:
        return sell(house, given[0], given[1], given[2])
    if number == SUBSCRIBE:
        return subscribe(house, given[0], given[1], given[2])
    if number == REDEEM:
        return redeem(house, given[0], given[1], given[2])
    if number == ISSUE:
        return issue(house, given[0], given[1])
    return cancel(house, given[0], given[1])


def answer_telling(house, number, given):
    if number == VALUE:
        return tell_value(house, given[0])
    if number == ROUNDS:
        return tell_rounds(house, given[0])
    if number == THROUGH:
        return tell_part(house, given[0], given[1])
    if number == EXPOSURE:
        return tell_exposure(house, given[0], given[1])
    if number == GROUP:
        return tell_group(house, given[0], given[1])
    if number == BREACHES:
        return tell_breaches(house, given[0])
    if number == HOLDING:
        return tell_holding(house, given[0])
    if number == FUNDAT:
        return tell_fund(house, given[0])
    return tell_sums(house)


def answer_call(house, number, given):
    if number <= LIMITS:
        return answer_setting(house, number, given)
    if number <= CANCEL:
        return answer_dealing(house, number, given)
    if number == TICK:
        return tick(house, given[0])
    return answer_telling(house, number, given)


def answers(calls):
    """For each call, in order: how many numbers are answered, then these."""
    house = House()
    told = []
    place = 0
    while place < len(calls):
        number = calls[place]
        behind = place + 1 + LENGTHS[number]
        answer = answer_call(house, number, calls[place + 1:behind])
        told.append(len(answer))
        told.extend(answer)
        place = behind
    return told
