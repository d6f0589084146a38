"""What the calls so far can't bring about or show: funds without units outside, and what is noted.

These tests set a house up by hand: nobody outside can give units back yet, so no list of calls reaches -9.
"""

import itertools
import unittest
from unittest import mock

from fundrings import breaches, dealing, settings
from fundrings.state import Fund, House, Thing, copied_funds, is_sound


def house_of(outside, held, cash=()):
    """A house with funds 0, 1, ..: their units outside, held[(i, j)] units of j held by i, and their cash."""
    house = House()
    for i, units in enumerate(outside):
        house.funds[i] = Fund(units, cash[i] if cash else 1000)
    for (i, j), units in held.items():
        house.funds[i].held[j] = units
    return house


def shown(house):
    funds = {i: dict(vars(fund), pieces=list(fund.pieces), held=list(fund.held)) for i, fund in house.funds.items()}
    return funds, dict(house.noted), house.day, list(house.groups)


def owned_wholly(funds):
    """Straight from the document: some funds, one or more, hold all units of each of them."""
    for size in range(1, len(funds) + 1):
        for owners in itertools.combinations(sorted(funds), size):
            if all(funds[j].outside == 0 and all(funds[i].held[j] == 0 for i in funds if i not in owners)
                   for j in owners):
                return True
    return False


class Sound(unittest.TestCase):
    def test_every_house_of_three(self):
        pairs = [(i, j) for i in range(3) for j in range(3) if i != j]
        for outside in itertools.product((0, 2), repeat=3):
            for units in itertools.product((0, 3), repeat=6):
                funds = house_of(outside, dict(zip(pairs, units))).funds
                self.assertEqual(is_sound(funds), not owned_wholly(funds), (outside, units))

    def test_a_ring_of_six(self):
        ring = {(i, (i + 1) % 6): 1 for i in range(6)}
        self.assertFalse(is_sound(house_of([0] * 6, ring).funds))
        for i in range(6):
            self.assertTrue(is_sound(house_of([int(i == j) for j in range(6)], ring).funds))

    def test_no_funds(self):
        self.assertTrue(is_sound({}))


class OwnedWholly(unittest.TestCase):
    def refused(self, house, call, given, number):
        before = shown(house)
        self.assertEqual(call(house, *given), [number])
        self.assertEqual(shown(house), before)

    def test_redeem_leaves_no_units(self):
        house = house_of([10, 0], {(0, 1): 5})
        self.refused(house, dealing.redeem, (0, 1, 5), -9)
        self.assertEqual(dealing.redeem(house, 0, 1, 4), [800])
        self.refused(house, dealing.redeem, (0, 1, 1), -9)

    def test_redeem_leaves_a_ring_of_two(self):
        # Funds 1 and 2 hold one another; fund 0's units of 1, worth all its coins, are all that anybody else has.
        house = house_of([10, 0, 0], {(0, 1): 5, (1, 2): 4, (2, 1): 5}, [0, 1000, 0])
        self.refused(house, dealing.redeem, (0, 1, 5), -9)
        self.assertEqual(dealing.redeem(house, 0, 1, 4), [800])
        self.refused(house, dealing.redeem, (0, 1, 1), -9)

    def test_redeem_leaves_a_ring_of_three(self):
        house = house_of([10, 0, 0, 0], {(0, 2): 9, (1, 2): 4, (2, 3): 4, (3, 1): 4}, [0, 0, 900, 0])
        self.refused(house, dealing.redeem, (0, 2, 9), -9)
        self.assertEqual(dealing.redeem(house, 0, 2, 8), [800])

    def test_redeem_of_worthless_units(self):
        house = house_of([10, 0, 0], {(0, 1): 5, (1, 2): 4, (2, 1): 5}, [7, 0, 0])
        self.refused(house, dealing.redeem, (0, 1, 5), -9)
        self.assertEqual(dealing.redeem(house, 0, 1, 4), [0])

    def test_redeem_in_a_ring_that_others_stand_behind(self):
        # Fund 2 has a unit outside, so funds 1 and 2 may hold one another's others.
        house = house_of([10, 0, 1], {(0, 1): 5, (1, 2): 3, (2, 1): 5}, [0, 1000, 0])
        self.assertEqual(dealing.redeem(house, 0, 1, 5), [800])
        # Fund 3 holds fund 1 too and is held outside itself.
        house = house_of([10, 0, 0, 1], {(0, 1): 4, (3, 1): 1, (1, 2): 4, (2, 1): 5}, [0, 1000, 0, 0])
        self.assertEqual(dealing.redeem(house, 0, 1, 4), [800])

    def test_fewer_and_no_cash_before_owned_wholly(self):
        house = house_of([10, 0], {(0, 1): 5})
        self.refused(house, dealing.redeem, (0, 1, 6), -5)
        house.things[0] = Thing(0, 1)
        house.funds[1].cash = 999
        house.funds[1].pieces[0] = 1
        self.refused(house, dealing.redeem, (0, 1, 5), -7)

    def test_subscribe_by_a_wholly_held_fund(self):
        # Fund 1 is fund 0's alone. New units take nobody outside away, so each may buy the other's.
        house = house_of([10, 0], {(0, 1): 5})
        self.assertEqual(dealing.subscribe(house, 1, 0, 400), [2, 400])
        self.assertEqual(dealing.subscribe(house, 0, 1, 400), [2, 400])

    def test_subscribe_asks_behind_too_many_and_ahead_of_not_let(self):
        # No sound house gets unsound by new units, so the question itself is answered by hand.
        house = house_of([100, 100], {}, [1000, 500])
        house.things[0] = Thing(0, 1)
        house.funds[1].pieces[0] = 500
        house.funds[0].one = 0
        self.refused(house, dealing.subscribe, (0, 1, 100), -8)
        with mock.patch.object(dealing, "is_sound", return_value=False) as asked:
            self.refused(house, dealing.subscribe, (0, 1, 100), -9)
            self.assertEqual(asked.call_args.args[0][0].held[1], 10)
            self.refused(house, dealing.subscribe, (0, 1, 1010), -7)
            house.funds[1].outside = 10000000
            self.refused(house, dealing.subscribe, (0, 1, 1), -3)


class Let(unittest.TestCase):
    """No buying makes a measure fall against the worth, so the funds behind it are told by hand."""

    def house(self):
        house = house_of([100], {})
        house.things[0] = Thing(0, 1)
        house.funds[0].cash = 700
        house.funds[0].pieces[0] = 300
        return house

    def test_a_breach_that_falls_stays_or_grows(self):
        for told in ([1000000, 200000, 1000000, 1000000], [0, 1000000, 200000, 1000000],
                     [1000000, 1000000, 1000000, 200000]):
            house = self.house()
            settings.set_limits(house, 0, told)
            for cash, let in ((701, True), (700, True), (699, False)):
                funds = copied_funds(house.funds)
                funds[0].cash = cash
                self.assertEqual(breaches.is_let(house, funds, 0), let, (told, cash))
            for pieces, let in ((299, True), (300, True), (301, False), (100, True)):
                funds = copied_funds(house.funds)
                funds[0].pieces[0] = pieces
                self.assertEqual(breaches.is_let(house, funds, 0), let, (told, pieces))


class Noted(unittest.TestCase):
    def house(self):
        house = House()
        for k in range(3):
            settings.add_thing(house, k, k, 1)
        settings.add_fund(house, 0, 100, 1000)
        settings.add_fund(house, 1, 100, 1000)
        return house

    def test_nothing_at_first(self):
        self.assertEqual(self.house().noted, {})
        self.assertEqual(House().day, 0)

    def test_kinds_in_their_order_with_the_day(self):
        house = self.house()
        for call in ((1, 2, 100), (1, 0, 100), (0, 1, 100)):
            dealing.buy(house, *call)
        settings.set_group(house, 2, 3)
        house.day = 4
        settings.set_limits(house, 1, [0, 0, 0, 0])
        self.assertEqual(list(house.noted.items()), [((1, 1, 0), 4), ((1, 1, 2), 4), ((1, 2, 0), 4), ((1, 3, 0), 4),
                                                    ((1, 3, 3), 4)])
        house.day = 6
        settings.set_limits(house, 0, [1000000, 0, 1000000, 1000000])
        self.assertEqual(list(house.noted.items())[0], ((0, 1, 1), 6))
        self.assertEqual(house.noted[(1, 2, 0)], 4)

    def test_keeps_its_day_and_is_forgotten(self):
        house = self.house()
        settings.set_limits(house, 0, [1000000, 200000, 1000000, 1000000])
        dealing.buy(house, 0, 0, 200)
        self.assertEqual(house.noted, {})
        house.day = 2
        settings.set_price(house, 0, 2)
        self.assertEqual(house.noted, {(0, 1, 0): 2})
        house.day = 3
        settings.set_price(house, 0, 3)
        self.assertEqual(house.noted, {(0, 1, 0): 2})
        settings.set_price(house, 0, 1)
        self.assertEqual(house.noted, {})
        house.day = 5
        settings.set_price(house, 0, 2)
        self.assertEqual(house.noted, {(0, 1, 0): 5})

    def test_behind_buy_and_sell(self):
        house = self.house()
        settings.set_limits(house, 0, [1000000, 1000000, 1000000, 300000])
        dealing.buy(house, 0, 0, 300)
        settings.set_limits(house, 0, [1000000, 299999, 1000000, 1000000])
        self.assertEqual(list(house.noted), [(0, 1, 0)])
        dealing.sell(house, 0, 0, 1)
        self.assertEqual(house.noted, {})

    def test_behind_subscribe_redeem_and_issue(self):
        # Fund 1 has 200 of 1000 in issuer 0, then of 1500, then of 1000 again, then of 1500 again.
        house = self.house()
        dealing.buy(house, 1, 0, 200)
        settings.set_limits(house, 1, [1000000, 150000, 1000000, 1000000])
        self.assertEqual(house.noted, {(1, 1, 0): 0})
        self.assertEqual(dealing.subscribe(house, 0, 1, 500), [50, 500])
        self.assertEqual(house.noted, {})
        house.day = 7
        self.assertEqual(dealing.redeem(house, 0, 1, 50), [500])
        self.assertEqual(house.noted, {(1, 1, 0): 7})
        self.assertEqual(dealing.issue(house, 1, 500), [50, 500])
        self.assertEqual(house.noted, {})

    def test_behind_issuer(self):
        house = self.house()
        dealing.buy(house, 1, 0, 100)
        dealing.buy(house, 1, 1, 50)
        settings.set_limits(house, 1, [1000000, 1000000, 1000000, 100000])
        self.assertEqual(house.noted, {(1, 3, 0): 0})
        settings.set_group(house, 0, 2)
        self.assertEqual(house.noted, {})
        house.day = 3
        settings.set_group(house, 1, 2)
        self.assertEqual(house.noted, {(1, 3, 2): 3})

    def test_others_bring_a_fund_into_breach(self):
        # Fund 0 has half of fund 1 and may have a tenth in one issuer: it is in breach when fund 1 buys 201.
        house = self.house()
        settings.set_limits(house, 0, [1000000, 100000, 1000000, 1000000])
        dealing.subscribe(house, 0, 1, 1000)
        dealing.buy(house, 1, 0, 200)
        self.assertEqual(house.noted, {})
        house.day = 9
        dealing.buy(house, 1, 0, 1)
        self.assertEqual(house.noted, {(0, 1, 0): 9})

    def test_a_refused_call_notes_nothing(self):
        house = self.house()
        dealing.buy(house, 0, 0, 300)
        house.funds[0].one = 0
        for told in (settings.set_price(house, 9, 1), settings.set_price(house, 0, -1), settings.set_group(house, 8, 0),
                     settings.set_limits(house, 0, [0, 0, 0, -1]), dealing.buy(house, 0, 0, 1),
                     dealing.sell(house, 0, 0, 301), dealing.subscribe(house, 0, 1, 1), dealing.redeem(house, 0, 1, 1),
                     dealing.issue(house, 0, 1)):
            self.assertLess(told[0], 0)
            self.assertEqual(house.noted, {})

    def test_clear_forgets(self):
        house = self.house()
        dealing.buy(house, 0, 0, 300)
        settings.set_limits(house, 0, [0, 0, 0, 0])
        house.day = 3
        self.assertEqual(len(house.noted), 3)
        settings.clear_house(house)
        self.assertEqual(shown(house), ({}, {}, 0, [0] * 8))


if __name__ == "__main__":
    unittest.main()
