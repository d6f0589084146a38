"""What no list of calls brings about or shows, on houses set up by hand.

- The day stays far below 1000000 in a list of 400 calls.
- New units never make a sound house unsound, so no subscribe comes to -9.
- No buying makes a breach's measure fall against the worth.
- What is noted is always what is in breach, so a list can't show which calls note and which don't.
"""

import itertools
import unittest
from unittest import mock

from fundrings import breaches, dealing, house as way_in, settings
from fundrings.state import Fund, House, Thing, copied_funds, is_sound
from tests import helper


def house_of(outside, held, cash=()):
    """A house with funds 0, 1, ..: their units outside, held[(i, j)] units of j held by i, and their cash."""
    house = House()
    for i, units in enumerate(outside):
        house.funds[i] = Fund(units, cash[i] if cash else 1000)
    for (i, j), units in held.items():
        house.funds[i].held[j] = units
    return house


def shown(house):
    funds = {i: dict(vars(fund), pieces=list(fund.pieces), held=list(fund.held)) for i, fund in house.funds.items()}
    return funds, dict(house.noted), house.day, list(house.groups)


def done(house, call):
    return way_in.answer_call(house, call[0], call[1:])


def owned_wholly(funds):
    """Straight from the document: some funds, one or more, hold all units of each of them."""
    for size in range(1, len(funds) + 1):
        for owners in itertools.combinations(sorted(funds), size):
            if all(funds[j].outside == 0 and all(funds[i].held[j] == 0 for i in funds if i not in owners)
                   for j in owners):
                return True
    return False


class Sound(unittest.TestCase):
    def test_every_house_of_three(self):
        pairs = [(i, j) for i in range(3) for j in range(3) if i != j]
        for outside in itertools.product((0, 2), repeat=3):
            for units in itertools.product((0, 3), repeat=6):
                funds = house_of(outside, dict(zip(pairs, units))).funds
                self.assertEqual(is_sound(funds), not owned_wholly(funds), (outside, units))

    def test_a_ring_of_six(self):
        ring = {(i, (i + 1) % 6): 1 for i in range(6)}
        self.assertFalse(is_sound(house_of([0] * 6, ring).funds))
        for i in range(6):
            self.assertTrue(is_sound(house_of([int(i == j) for j in range(6)], ring).funds))

    def test_no_funds(self):
        self.assertTrue(is_sound({}))


class OwnedWholly(unittest.TestCase):
    def refused(self, house, call, given, number):
        before = shown(house)
        self.assertEqual(call(house, *given), [number])
        self.assertEqual(shown(house), before)

    def test_subscribe_asks_behind_too_many_and_ahead_of_not_let(self):
        # The question whether the house stays sound is itself answered by hand.
        house = house_of([100, 100], {}, [1000, 500])
        house.things[0] = Thing(0, 1)
        house.funds[1].pieces[0] = 500
        house.funds[0].one = 0
        self.refused(house, dealing.subscribe, (0, 1, 100), -8)
        with mock.patch.object(dealing, "is_sound", return_value=False) as asked:
            self.refused(house, dealing.subscribe, (0, 1, 100), -9)
            self.assertEqual(asked.call_args.args[0][0].held[1], 10)
            self.refused(house, dealing.subscribe, (0, 1, 1010), -7)
            house.funds[1].outside = 10000000
            self.refused(house, dealing.subscribe, (0, 1, 1), -3)


class Let(unittest.TestCase):
    def house(self):
        house = house_of([100], {})
        house.things[0] = Thing(0, 1)
        house.funds[0].cash = 700
        house.funds[0].pieces[0] = 300
        return house

    def test_a_breach_that_falls_stays_or_grows(self):
        for told in ([1000000, 200000, 1000000, 1000000], [0, 1000000, 200000, 1000000],
                     [1000000, 1000000, 1000000, 200000]):
            house = self.house()
            settings.set_limits(house, 0, told)
            for cash, let in ((701, True), (700, True), (699, False)):
                funds = copied_funds(house.funds)
                funds[0].cash = cash
                self.assertEqual(breaches.is_let(house, funds, 0), let, (told, cash))
            for pieces, let in ((299, True), (300, True), (301, False), (100, True)):
                funds = copied_funds(house.funds)
                funds[0].pieces[0] = pieces
                self.assertEqual(breaches.is_let(house, funds, 0), let, (told, pieces))


class LastDay(unittest.TestCase):
    def house(self, day):
        house = house_of([10], {})
        house.day = day
        return house

    def test_just_1000000(self):
        for day, n in ((999999, 1), (999998, 2), (999000, 1000)):
            house = self.house(day)
            self.assertEqual(done(house, helper.tick(n)), [1000000])
            self.assertEqual(house.day, 1000000)
            self.assertEqual(done(house, helper.sums()), [1000000, 1000, 1000])

    def test_one_beyond(self):
        for day, n in ((1000000, 1), (999999, 2), (999001, 1000), (1000000, 1000)):
            house = self.house(day)
            before = shown(house)
            self.assertEqual(done(house, helper.tick(n)), [-3])
            self.assertEqual(shown(house), before)

    def test_out_of_range_before_too_late(self):
        for n in (0, -1, 1001, 10 ** 18, -10 ** 18):
            house = self.house(1000000)
            self.assertEqual(done(house, helper.tick(n)), [-1])
            self.assertEqual(house.day, 1000000)

    def test_clear_begins_anew(self):
        house = self.house(1000000)
        self.assertEqual(done(house, helper.clear()), [0])
        self.assertEqual(done(house, helper.tick(5)), [5])

    def test_a_breach_of_the_last_day(self):
        house = self.house(1000000)
        for call in (helper.thing(0, 0, 1), helper.buy(0, 0, 10), helper.limits(0, one=0)):
            done(house, call)
        self.assertEqual(done(house, helper.breaches(0)), [1, 1, 0, 1000000])


class Noting(unittest.TestCase):
    """Fund 0 is in breach, and nothing is noted of it yet, since its limit was set by hand."""

    def house(self):
        house = House()
        for call in (helper.thing(0, 0, 1), helper.thing(1, 1, 1), helper.fund(0, 100, 1000), helper.fund(1, 100, 1000),
                     helper.buy(0, 0, 300), helper.buy(1, 1, 10), helper.subscribe(1, 0, 100)):
            self.assertGreaterEqual(done(house, call)[0], 0)
        house.funds[0].one = 0
        house.day = 8
        self.assertEqual(house.noted, {})
        return house

    def test_the_calls_that_note(self):
        calls = [helper.price(1, 2), helper.issuer(7, 3), helper.limits(1), helper.buy(1, 1, 1), helper.sell(1, 1, 1),
                 helper.subscribe(1, 0, 10), helper.redeem(1, 0, 1), helper.issue(1, 10), helper.cancel(1, 1)]
        for call in calls:
            house = self.house()
            self.assertGreaterEqual(done(house, call)[0], 0, call)
            self.assertEqual(house.noted, {(0, 1, 0): 8}, call)

    def test_the_calls_that_do_not(self):
        calls = [helper.thing(5, 5, 5), helper.fund(5, 5, 5), helper.tick(5)] + helper.looked()
        for call in calls:
            house = self.house()
            done(house, call)
            self.assertEqual(house.noted, {}, call)

    def test_nothing_is_noted_behind_a_refusal(self):
        calls = [(helper.price(9, 1), -2), (helper.price(0, -1), -1), (helper.issuer(8, 0), -1),
                 (helper.limits(1, 0, 0, 0, -1), -1), (helper.buy(1, 1, 891), -7), (helper.buy(0, 0, 1), -8),
                 (helper.sell(1, 1, 11), -5), (helper.subscribe(1, 0, 1000), -7), (helper.subscribe(0, 1, 9), -6),
                 (helper.redeem(1, 0, 11), -5), (helper.issue(0, 1), -6), (helper.cancel(0, 101), -5),
                 (helper.cancel(0, 100), -7), (helper.tick(0), -1)]
        for call, number in calls:
            house = self.house()
            before = shown(house)
            self.assertEqual(done(house, call), [number], call)
            self.assertEqual(shown(house), before, call)


if __name__ == "__main__":
    unittest.main()
