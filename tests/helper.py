"""What the tests share: calls as lists, answers split up, and a second reckoning to compare with."""

import copy
import itertools
from fractions import Fraction

from fundrings.house import answers

MILLION = 1000000
NAMES = """clear thing price issuer fund limits buy sell subscribe redeem issue cancel tick value rounds through exposure
group breaches holding fundat sums""".split()
NOTING = "price issuer limits buy sell subscribe redeem issue cancel".split()


def clear():
    return [0]


def thing(k, issuer, price):
    return [1, k, issuer, price]


def price(k, coins):
    return [2, k, coins]


def issuer(number, group):
    return [3, number, group]


def fund(i, outside, cash):
    return [4, i, outside, cash]


def limits(i, large=MILLION, one=MILLION, together=MILLION, group=MILLION):
    return [5, i, large, one, together, group]


def buy(i, k, n):
    return [6, i, k, n]


def sell(i, k, n):
    return [7, i, k, n]


def subscribe(i, j, money):
    return [8, i, j, money]


def redeem(i, j, units):
    return [9, i, j, units]


def issue(j, money):
    return [10, j, money]


def cancel(j, units):
    return [11, j, units]


def tick(n):
    return [12, n]


def value(i):
    return [13, i]


def rounds(n):
    return [14, n]


def through(i, j):
    return [15, i, j]


def exposure(i, number):
    return [16, i, number]


def group(i, which):
    return [17, i, which]


def breaches(i):
    return [18, i]


def holding(i):
    return [19, i]


def fundat(i):
    return [20, i]


def sums():
    return [21]


def split(told):
    """The answers call by call, from how many numbers each has before it."""
    parts = []
    while told:
        parts.append(told[1:1 + told[0]])
        if len(parts[-1]) != told[0] or told[0] < 1:
            raise ValueError("the answers don't come out even")
        told = told[1 + told[0]:]
    return parts


def ask(calls):
    """The answers to a list of calls, one list for each."""
    parts = split(answers([number for call in calls for number in call]))
    if len(parts) != len(calls):
        raise ValueError("not one answer for each call")
    return parts


def last(calls):
    return ask(calls)[-1]


def looked():
    """Calls that change nothing and tell of every fund, of what is noted and of the day."""
    told = [sums(), rounds(3)]
    for i in range(6):
        told += [value(i), breaches(i), holding(i), fundat(i)] + [through(i, j) for j in range(6)]
        told += [exposure(i, number) for number in range(8)] + [group(i, which) for which in range(4)]
    return told


def probes():
    """Calls whose answers tell all that is there; the later ones show prices, groups and the things' issuers."""
    told = looked() + [issuer(number, 0) for number in range(8)]
    told += [limits(i) for i in range(6)] + [fund(i, 10, 1000) for i in range(6)]
    told += [price(k, k + 1) for k in range(12)]
    told += [buy(i, k, 1) for i in range(6) for k in range(12)]
    return told + [exposure(i, number) for i in range(6) for number in range(8)]


class ModelFund:
    def __init__(self, outside, cash):
        self.outside = outside
        self.cash = cash
        self.pieces = {}
        self.held = {}
        self.limits = [MILLION] * 4


class Model:
    """The document once more, by fractions and by trying every set of funds: slow and plain."""

    def __init__(self):
        self.funds = {}
        self.things = {}
        self.groups = {}
        self.day = 0
        self.noted = {}

    def units(self, j):
        return self.funds[j].outside + sum(f.held.get(j, 0) for f in self.funds.values())

    def part_rows(self):
        """P by elimination with fractions, of worth of i less the share in j times worth of j is its own."""
        order = sorted(self.funds)
        rows = []
        for i in order:
            left = [Fraction(i == j) - Fraction(self.funds[i].held.get(j, 0), self.units(j)) for j in order]
            rows.append(left + [Fraction(i == j) for j in order])
        for at in range(len(order)):
            found = next(r for r in range(at, len(order)) if rows[r][at] != 0)
            rows[at], rows[found] = rows[found], rows[at]
            rows[at] = [number / rows[at][at] for number in rows[at]]
            for r in range(len(order)):
                if r != at:
                    factor = rows[r][at]
                    rows[r] = [a - factor * b for a, b in zip(rows[r], rows[at])]
        return {i: dict(zip(order, rows[at][len(order):])) for at, i in enumerate(order)}

    def issued(self, j, number):
        return sum(n * self.things[k][1] for k, n in self.funds[j].pieces.items() if self.things[k][0] == number)

    def itself(self, j):
        return self.funds[j].cash + sum(self.issued(j, number) for number in range(8))

    def worth(self, i):
        parts = self.part_rows()[i]
        return sum(parts[j] * self.itself(j) for j in self.funds)

    def unit_worth(self, j):
        return self.worth(j) / self.units(j)

    def breaches(self, i, parts):
        """(kind, which) to the measure by the worth, from fund i's parts of what all have themselves."""
        worth = sum(parts[j] * self.itself(j) for j in self.funds)
        if worth == 0:
            return {}
        ratios = [sum(parts[j] * self.issued(j, number) for j in self.funds) / worth for number in range(8)]
        large, one, together, group = [Fraction(limit, MILLION) for limit in self.funds[i].limits]
        found = {(1, number): ratio for number, ratio in enumerate(ratios) if ratio > one}
        of_large = sum(ratio for ratio in ratios if ratio > large)
        if of_large > together:
            found[(2, 0)] = of_large
        for which in range(4):
            grouped = sum(ratio for number, ratio in enumerate(ratios) if self.groups.get(number, 0) == which)
            if grouped > group:
                found[(3, which)] = grouped
        return found

    def owned_wholly(self):
        for size in range(1, len(self.funds) + 1):
            for owners in itertools.combinations(sorted(self.funds), size):
                if all(self.units(j) == sum(self.funds[i].held.get(j, 0) for i in owners) for j in owners):
                    return True
        return False

    def lets(self, before, i):
        old = before.breaches(i, before.part_rows()[i])
        new = self.breaches(i, self.part_rows()[i])
        return all(place in old and ratio <= old[place] for place, ratio in new.items())

    def note(self):
        parts = self.part_rows()
        found = {(i,) + place for i in self.funds for place in self.breaches(i, parts[i])}
        self.noted = {place: self.noted.get(place, self.day) for place in found}

    def answer(self, call):
        """What the call answers; what it changes is changed only if it isn't refused."""
        trial = copy.deepcopy(self)
        name = NAMES[call[0]]
        told = getattr(trial, "do_" + name)(self, *call[1:])
        if isinstance(told, int):
            told = [told]
        if told[0] >= 0:
            if name in NOTING:
                trial.note()
            self.__dict__ = trial.__dict__
        return told

    def do_clear(self, before):
        self.__init__()
        return 0

    def do_thing(self, before, k, number, coins):
        if k not in range(12) or number not in range(8) or coins not in range(MILLION + 1):
            return -1
        if k in self.things:
            return -4
        self.things[k] = (number, coins)
        return 0

    def do_price(self, before, k, coins):
        if k not in self.things:
            return -2
        if coins not in range(MILLION + 1):
            return -1
        self.things[k] = (self.things[k][0], coins)
        return before.things[k][1]

    def do_issuer(self, before, number, group):
        if number not in range(8) or group not in range(4):
            return -1
        self.groups[number] = group
        return before.groups.get(number, 0)

    def do_fund(self, before, i, outside, cash):
        if i not in range(6) or outside not in range(1, MILLION + 1) or cash not in range(10 ** 9 + 1):
            return -1
        if i in self.funds:
            return -4
        self.funds[i] = ModelFund(outside, cash)
        return 0

    def do_limits(self, before, i, *told):
        if i not in self.funds:
            return -2
        if any(limit not in range(MILLION + 1) for limit in told):
            return -1
        self.funds[i].limits = list(told)
        return 0

    def do_buy(self, before, i, k, n):
        if i not in self.funds or k not in self.things:
            return -2
        if n not in range(1, MILLION + 1):
            return -1
        cost = n * self.things[k][1]
        self.funds[i].cash -= cost
        self.funds[i].pieces[k] = self.funds[i].pieces.get(k, 0) + n
        if self.funds[i].cash < 0:
            return -7
        if self.funds[i].pieces[k] > 10 ** 7:
            return -3
        return cost if self.lets(before, i) else -8

    def do_sell(self, before, i, k, n):
        if i not in self.funds or k not in self.things:
            return -2
        if n not in range(1, MILLION + 1):
            return -1
        if self.funds[i].pieces.get(k, 0) < n:
            return -5
        self.funds[i].pieces[k] -= n
        self.funds[i].cash += n * self.things[k][1]
        return n * self.things[k][1]

    def bought(self, j, money):
        each = self.unit_worth(j)
        if each == 0 or money < each:
            return None
        units = int(money / each)
        cost = units * each
        return [units, int(cost) + (cost != int(cost))]

    def do_subscribe(self, before, i, j, money):
        if i not in self.funds or j not in self.funds:
            return -2
        if i == j or money not in range(1, 10 ** 9 + 1):
            return -1
        told = self.bought(j, money)
        if told is None:
            return -6
        self.funds[i].cash -= told[1]
        self.funds[j].cash += told[1]
        self.funds[i].held[j] = self.funds[i].held.get(j, 0) + told[0]
        if self.funds[i].cash < 0:
            return -7
        if self.units(j) > 10 ** 7:
            return -3
        if self.owned_wholly():
            return -9
        return told if self.lets(before, i) else -8

    def do_redeem(self, before, i, j, units):
        if i not in self.funds or j not in self.funds:
            return -2
        if i == j or units not in range(1, 10 ** 7 + 1):
            return -1
        if self.funds[i].held.get(j, 0) < units:
            return -5
        paid = int(units * self.unit_worth(j))
        self.funds[j].cash -= paid
        self.funds[i].cash += paid
        self.funds[i].held[j] -= units
        if self.funds[j].cash < 0:
            return -7
        return -9 if self.owned_wholly() else paid

    def do_issue(self, before, j, money):
        if j not in self.funds:
            return -2
        if money not in range(1, 10 ** 9 + 1):
            return -1
        told = self.bought(j, money)
        if told is None:
            return -6
        self.funds[j].outside += told[0]
        self.funds[j].cash += told[1]
        return -3 if self.units(j) > 10 ** 7 else told

    def do_cancel(self, before, j, units):
        if j not in self.funds:
            return -2
        if units not in range(1, 10 ** 7 + 1):
            return -1
        if self.funds[j].outside < units:
            return -5
        paid = int(units * self.unit_worth(j))
        self.funds[j].cash -= paid
        self.funds[j].outside -= units
        if self.funds[j].cash < 0:
            return -7
        return -9 if self.owned_wholly() else paid

    def do_tick(self, before, n):
        if n not in range(1, 1001):
            return -1
        self.day += n
        return self.day if self.day <= MILLION else -3

    def do_value(self, before, i):
        if i not in self.funds:
            return -2
        worth = self.worth(i)
        each = worth / self.units(i)
        return [int(worth), int(each * MILLION), self.itself(i), self.units(i), self.funds[i].outside]

    def do_rounds(self, before, n):
        if n not in range(61):
            return -1
        now = dict.fromkeys(range(6), 0)
        for turn in range(n):
            behind = dict.fromkeys(range(6), 0)
            for i, holder in self.funds.items():
                behind[i] = self.itself(i) + sum(units * now[j] // self.units(j) for j, units in holder.held.items())
            now = behind
        return [0] + [now[i] for i in range(6)]

    def do_through(self, before, i, j):
        if i not in self.funds or j not in self.funds:
            return -2
        return int(self.part_rows()[i][j] * MILLION)

    def exposed(self, i, numbers):
        parts = self.part_rows()[i]
        coins = sum((parts[j] * self.issued(j, number) for j in self.funds for number in numbers), Fraction(0))
        worth = self.worth(i)
        return [int(coins), int(coins * MILLION / worth) if worth else 0]

    def do_exposure(self, before, i, number):
        if i not in self.funds:
            return -2
        return self.exposed(i, [number]) if number in range(8) else -1

    def do_group(self, before, i, which):
        if i not in self.funds:
            return -2
        numbers = [number for number in range(8) if self.groups.get(number, 0) == which]
        return self.exposed(i, numbers) if which in range(4) else -1

    def do_breaches(self, before, i):
        if i not in self.funds:
            return -2
        told = sorted(place[1:] + (day,) for place, day in self.noted.items() if place[0] == i)
        return [len(told)] + [number for row in told for number in row]

    def do_holding(self, before, i):
        if i not in self.funds:
            return -2
        fund_i = self.funds[i]
        return [fund_i.pieces.get(k, 0) for k in range(12)] + [fund_i.held.get(j, 0) for j in range(6)]

    def do_fundat(self, before, i):
        if i not in self.funds:
            return -2
        return [self.funds[i].outside, self.funds[i].cash] + self.funds[i].limits

    def do_sums(self, before):
        outside = sum((self.funds[j].outside * self.unit_worth(j) for j in self.funds), Fraction(0))
        return [self.day, sum(self.itself(j) for j in self.funds), int(outside)]


def model_answers(calls):
    model = Model()
    return [model.answer(call) for call in calls]


def refused_plainly(test, before, call, number):
    """The call is refused with the number alone, and what follows answers as if it hadn't been there."""
    after = probes()
    with_it = ask(before + [call] + after)
    test.assertEqual(with_it[len(before)], [number], call)
    without = ask(before + after)
    test.assertEqual(with_it[:len(before)], without[:len(before)], call)
    test.assertEqual(with_it[len(before) + 1:], without[len(before):], call)


def ranged(test, before, call, place, least, most):
    """The number at the place of the call is taken at both ends of its range, and one beyond each is -1."""
    for number in (least, most):
        test.assertNotEqual(last(before + [changed(call, place, number)]), [-1], (call, place, number))
    for number in (least - 1, most + 1, -10 ** 18, 10 ** 18):
        refused_plainly(test, before, changed(call, place, number), -1)


def changed(call, place, number):
    return call[:place] + [number] + call[place + 1:]
