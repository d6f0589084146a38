"""The calls subscribe, redeem and issue; subscribing that isn't let stands in test_let.py."""

import unittest

from tests.helper import (ask, buy, fund, issue, last, limits, price, probes, ranged, redeem, refused_plainly, sell,
                          subscribe, thing)

FAR = 10 ** 18
TWO = [fund(0, 100, 1000), fund(1, 100, 500)]
# The document's example: W of 0 is 10 and W of 1 is 5, in a ring.
RING = TWO + [subscribe(0, 1, 500), subscribe(1, 0, 500)]
# Fund 1's unit is worth 10/3, fund 0 has 100 coins.
THIRDS = [fund(0, 10, 100), fund(1, 3, 10)]
# Fund 1 has ten million units at 1 coin each.
FULL = [fund(0, 10, 100), fund(1, 1000000, 1000000), issue(1, 9000000)]
# Fund 1 is worth nothing; fund 0 has 10 units of it.
WORTHLESS = [thing(0, 0, 10), fund(0, 10, 100), fund(1, 10, 10), buy(1, 0, 1), subscribe(0, 1, 10), buy(1, 0, 1),
             price(0, 0)]


class Subscribe(unittest.TestCase):
    def test_the_documents_example(self):
        self.assertEqual(ask(RING), [[0], [0], [100, 500], [50, 500]])
        self.assertEqual(ask(RING + [issue(0, 10), issue(1, 5), issue(0, 9), issue(1, 4)])[4:],
                         [[1, 10], [1, 5], [-6], [-6]])

    def test_the_cost_goes_from_one_fund_to_the_other(self):
        before = TWO + [subscribe(0, 1, 500), thing(11, 0, 1)]
        self.assertEqual(ask(before + [buy(0, 11, 501), buy(0, 11, 500)])[4:], [[-7], [500]])
        self.assertEqual(ask(before + [buy(1, 11, 1001), buy(1, 11, 1000)])[4:], [[-7], [1000]])

    def test_the_units_are_the_buyers(self):
        before = TWO + [subscribe(0, 1, 500)]
        self.assertEqual(last(before + [redeem(0, 1, 101)]), [-5])
        self.assertEqual(last(before + [redeem(0, 1, 100)]), [500])
        self.assertEqual(last(before + [redeem(1, 0, 1)]), [-5])

    def test_units_rounded_down_and_cost_rounded_up(self):
        self.assertEqual(last(THIRDS + [subscribe(0, 1, 4)]), [1, 4])
        self.assertEqual(last(THIRDS + [subscribe(0, 1, 6)]), [1, 4])
        self.assertEqual(last(THIRDS + [subscribe(0, 1, 7)]), [2, 7])
        self.assertEqual(last(THIRDS + [subscribe(0, 1, 10)]), [3, 10])
        self.assertEqual(last(THIRDS + [subscribe(0, 1, 11)]), [3, 10])
        self.assertEqual(last([fund(0, 1, 9), fund(1, 100, 1), subscribe(0, 1, 1)]), [100, 1])
        self.assertEqual(last([fund(0, 1, 9), fund(1, 70, 11), subscribe(0, 1, 1)]), [6, 1])

    def test_what_is_rounded_stays_with_the_other_fund(self):
        # 4 units for 14 coins' worth: fund 1 is worth 14 with 4 units then, fund 0 has 96 coins and 3.5.
        before = THIRDS + [subscribe(0, 1, 4)]
        self.assertEqual(last(before + [issue(1, 7)]), [2, 7])
        self.assertEqual(last(before + [issue(0, 199)]), [20, 199])

    def test_the_cost_counts_for_the_cash_not_the_money(self):
        self.assertEqual(last([fund(0, 10, 10), fund(1, 1, 9), subscribe(0, 1, 17)]), [1, 9])
        self.assertEqual(last([fund(0, 10, 8), fund(1, 1, 9), subscribe(0, 1, 9)]), [-7])
        self.assertEqual(last([fund(0, 10, 9), fund(1, 1, 9), subscribe(0, 1, 9)]), [1, 9])

    def test_range(self):
        before = [fund(0, 1, 1000000000), fund(1, 1, 1000000000)]
        ranged(self, before, subscribe(0, 1, 1), 3, 1, 1000000000)
        self.assertEqual(last(before + [subscribe(0, 1, 1000000000)]), [1, 1000000000])
        self.assertEqual(last([fund(0, 1, 1), fund(1, 1, 1), subscribe(0, 1, 1)]), [1, 1])

    def test_not_there(self):
        for missing in (2, 6, -1, FAR, -FAR):
            refused_plainly(self, TWO, subscribe(missing, 1, 5), -2)
            refused_plainly(self, TWO, subscribe(0, missing, 5), -2)
            refused_plainly(self, TWO, subscribe(missing, missing, 0), -2)

    def test_not_there_before_out_of_range(self):
        refused_plainly(self, TWO, subscribe(2, 1, 0), -2)
        refused_plainly(self, TWO, subscribe(0, 2, 1000000001), -2)

    def test_not_of_itself(self):
        refused_plainly(self, TWO, subscribe(0, 0, 50), -1)
        refused_plainly(self, RING, subscribe(1, 1, 50), -1)

    def test_out_of_range_before_no_unit(self):
        refused_plainly(self, WORTHLESS, subscribe(0, 1, 0), -1)
        refused_plainly(self, WORTHLESS, subscribe(1, 1, 5), -1)

    def test_no_unit(self):
        refused_plainly(self, WORTHLESS, subscribe(0, 1, 100), -6)
        refused_plainly(self, TWO, subscribe(0, 1, 4), -6)
        refused_plainly(self, THIRDS, subscribe(0, 1, 3), -6)

    def test_no_unit_before_no_cash(self):
        refused_plainly(self, [fund(0, 10, 2), fund(1, 1, 9)], subscribe(0, 1, 8), -6)
        refused_plainly(self, [fund(0, 10, 2), fund(1, 1, 0)], subscribe(0, 1, 8), -6)

    def test_no_cash(self):
        refused_plainly(self, TWO, subscribe(0, 1, 1005), -7)
        refused_plainly(self, RING, subscribe(1, 0, 510), -7)

    def test_no_cash_before_too_many(self):
        refused_plainly(self, FULL, subscribe(0, 1, 101), -7)
        refused_plainly(self, FULL, subscribe(0, 1, 100), -3)

    def test_more_than_ten_million_units(self):
        nearly = [fund(0, 10, 100), fund(1, 1000000, 1000000), issue(1, 8999990)]
        refused_plainly(self, nearly, subscribe(0, 1, 11), -3)
        self.assertEqual(last(nearly + [subscribe(0, 1, 10)]), [10, 10])
        # Those that funds hold count with those outside.
        refused_plainly(self, nearly + [subscribe(0, 1, 10)], subscribe(0, 1, 1), -3)

    def test_too_many_before_not_let(self):
        before = FULL + [thing(0, 0, 1), buy(1, 0, 1000000), limits(0, one=0)]
        refused_plainly(self, before, subscribe(0, 1, 1), -3)

    def test_no_unit_and_no_cash_before_not_let(self):
        before = TWO + [thing(0, 0, 1), buy(1, 0, 100), limits(0, one=0)]
        refused_plainly(self, before, subscribe(0, 1, 4), -6)
        refused_plainly(self, before, subscribe(0, 1, 1005), -7)
        refused_plainly(self, before, subscribe(0, 1, 1000), -8)


class Redeem(unittest.TestCase):
    def test_answers_what_is_paid(self):
        told = ask(RING + [redeem(0, 1, 40), redeem(1, 0, 50), redeem(0, 1, 60)])
        self.assertEqual(told[4:], [[200], [500], [300]])

    def test_the_units_are_gone_and_the_coins_change_hands(self):
        before = TWO + [subscribe(0, 1, 500), redeem(0, 1, 40), thing(11, 0, 1)]
        self.assertEqual(ask(before + [redeem(0, 1, 61), redeem(0, 1, 60)])[5:], [[-5], [300]])
        self.assertEqual(ask(before + [buy(0, 11, 701), buy(0, 11, 700)])[5:], [[-7], [700]])
        self.assertEqual(ask(before + [buy(1, 11, 801), buy(1, 11, 800)])[5:], [[-7], [800]])
        # 160 units are left, worth 5 each still.
        self.assertEqual(last(before + [issue(1, 9)]), [1, 5])

    def test_what_is_paid_is_rounded_down(self):
        # Fund 1 has 6 units and 20 coins.
        before = THIRDS + [subscribe(0, 1, 10)]
        self.assertEqual([last(before + [redeem(0, 1, n)]) for n in (1, 2, 3)], [[3], [6], [10]])
        # What is rounded stays: 17 coins for 5 units.
        self.assertEqual(last(before + [redeem(0, 1, 1), issue(1, 17)]), [5, 17])

    def test_worth_less_than_a_coin(self):
        before = [fund(0, 10, 100), fund(1, 100, 1), subscribe(0, 1, 1)]
        self.assertEqual(ask(before + [redeem(0, 1, 99), redeem(0, 1, 2), redeem(0, 1, 1)])[3:], [[0], [-5], [0]])

    def test_worthless_units(self):
        self.assertEqual(ask(WORTHLESS + [redeem(0, 1, 7), redeem(0, 1, 4), redeem(0, 1, 3)])[7:], [[0], [-5], [0]])

    def test_range(self):
        before = [fund(0, 1, 10000000), fund(1, 1, 1), subscribe(0, 1, 9999999)]
        ranged(self, before, redeem(0, 1, 1), 3, 1, 10000000)
        self.assertEqual(ask(before + [redeem(0, 1, 10000000), redeem(0, 1, 9999999)])[3:], [[-5], [9999999]])
        self.assertEqual(last(before + [redeem(0, 1, 1)]), [1])

    def test_not_there(self):
        for missing in (2, 6, -1, FAR, -FAR):
            refused_plainly(self, RING, redeem(missing, 1, 5), -2)
            refused_plainly(self, RING, redeem(0, missing, 5), -2)
            refused_plainly(self, RING, redeem(missing, missing, 0), -2)

    def test_not_there_before_out_of_range(self):
        refused_plainly(self, RING, redeem(2, 1, 0), -2)
        refused_plainly(self, RING, redeem(0, 2, 10000001), -2)

    def test_not_of_itself(self):
        refused_plainly(self, RING, redeem(0, 0, 5), -1)
        refused_plainly(self, TWO, redeem(1, 1, 5), -1)

    def test_out_of_range_before_fewer(self):
        refused_plainly(self, RING, redeem(0, 1, 10000001), -1)

    def test_fewer(self):
        refused_plainly(self, RING, redeem(0, 1, 101), -5)
        refused_plainly(self, RING, redeem(1, 0, 51), -5)
        refused_plainly(self, TWO, redeem(0, 1, 1), -5)

    def test_not_so_much_cash(self):
        # Fund 1 has 99 coins left.
        before = TWO + [subscribe(0, 1, 500), thing(0, 0, 1), buy(1, 0, 901)]
        refused_plainly(self, before, redeem(0, 1, 20), -7)
        self.assertEqual(last(before + [redeem(0, 1, 19)]), [95])
        self.assertEqual(last(before + [sell(1, 0, 1), redeem(0, 1, 20)]), [100])

    def test_fewer_before_no_cash(self):
        before = TWO + [subscribe(0, 1, 500), thing(0, 0, 1), buy(1, 0, 1000)]
        refused_plainly(self, before, redeem(0, 1, 101), -5)
        refused_plainly(self, before, redeem(0, 1, 100), -7)

    def test_needs_no_leave(self):
        before = TWO + [thing(0, 0, 1), buy(1, 0, 100), buy(0, 0, 100), subscribe(0, 1, 100), limits(0, 0, 0, 0, 0)]
        self.assertEqual(last(before + [redeem(0, 1, 1)]), [5])


class Issue(unittest.TestCase):
    def test_answers_units_and_cost(self):
        self.assertEqual(ask(TWO + [issue(0, 35), issue(1, 35)])[2:], [[3, 30], [7, 35]])

    def test_the_cost_comes_into_the_cash(self):
        before = TWO + [issue(0, 35), thing(0, 0, 1)]
        self.assertEqual(ask(before + [buy(0, 0, 1031), buy(0, 0, 1030)])[4:], [[-7], [1030]])

    def test_units_rounded_down_and_cost_rounded_up(self):
        self.assertEqual([last(THIRDS + [issue(1, money)]) for money in (4, 6, 7, 9, 10, 11)],
                         [[1, 4], [1, 4], [2, 7], [2, 7], [3, 10], [3, 10]])
        self.assertEqual(last([fund(1, 7, 3), issue(1, 1)]), [2, 1])
        # The units outside are more: 14 coins for 4 units.
        self.assertEqual(last(THIRDS + [issue(1, 4), issue(1, 14)]), [4, 14])

    def test_the_units_are_nobodys_here(self):
        self.assertEqual(ask(TWO + [issue(1, 50), redeem(0, 1, 1)])[2:], [[10, 50], [-5]])

    def test_range(self):
        ranged(self, [fund(1, 1, 1000000000)], issue(1, 1), 2, 1, 1000000000)
        self.assertEqual(last([fund(1, 1, 1000000000), issue(1, 1000000000)]), [1, 1000000000])
        self.assertEqual(last([fund(1, 1, 1), issue(1, 1)]), [1, 1])

    def test_not_there(self):
        for missing in (2, 6, -1, FAR, -FAR):
            refused_plainly(self, TWO, issue(missing, 5), -2)
        refused_plainly(self, TWO, issue(2, 0), -2)

    def test_no_unit(self):
        refused_plainly(self, WORTHLESS, issue(1, 1000), -6)
        refused_plainly(self, TWO, issue(0, 9), -6)
        refused_plainly(self, THIRDS, issue(1, 3), -6)

    def test_out_of_range_before_no_unit(self):
        refused_plainly(self, WORTHLESS, issue(1, 0), -1)
        refused_plainly(self, WORTHLESS, issue(1, 1000000001), -1)

    def test_more_than_ten_million_units(self):
        before = [fund(1, 1000000, 1000000)]
        refused_plainly(self, before, issue(1, 9000001), -3)
        self.assertEqual(last(before + [issue(1, 9000000)]), [9000000, 9000000])
        refused_plainly(self, FULL, issue(1, 1), -3)
        # Those that funds hold count with those outside.
        refused_plainly(self, [fund(0, 1, 5)] + before + [subscribe(0, 1, 5)], issue(1, 8999996), -3)

    def test_needs_no_leave(self):
        before = TWO + [thing(0, 0, 1), buy(1, 0, 100), limits(1, 0, 0, 0, 0)]
        self.assertEqual(last(before + [issue(1, 5)]), [1, 5])


class Rings(unittest.TestCase):
    def units_cost(self, before):
        """What a unit of each fund costs somebody outside, rounded up."""
        return [last(before + [issue(j, 1000000)]) for j in range(6)]

    def test_a_fund_that_holds_another(self):
        # Fund 0: 500 coins and 100 units of 5 coins, with 100 units: 10 each.
        self.assertEqual(last(TWO + [subscribe(0, 1, 500), issue(0, 25)]), [2, 20])
        # Fund 1 gains: its 100 things go from 1 to 3 coins, 1200 coins for 200 units; fund 0 has 500 + 600 then.
        gained = TWO + [subscribe(0, 1, 500), thing(0, 0, 1), buy(1, 0, 100), price(0, 3)]
        self.assertEqual(ask(gained + [issue(0, 11), issue(1, 6)])[-2:], [[1, 11], [1, 6]])

    def test_a_ring_of_two_after_a_gain(self):
        # Fund 0 gains 500: worth 1500 + 1.2 x 500 = 2100 of 150 units (14 each);
        # fund 1 1000 + 0.4 x 500 = 1200 of 200 units (6 each).
        gained = RING + [thing(0, 0, 1), buy(0, 0, 500), price(0, 2)]
        self.assertEqual(last(gained + [issue(0, 139)]), [9, 126])
        self.assertEqual(last(gained + [issue(1, 65)]), [10, 60])
        self.assertEqual(last(gained + [redeem(0, 1, 7)]), [42])
        self.assertEqual(last(gained + [redeem(1, 0, 7)]), [98])

    def test_a_ring_of_two_after_a_loss(self):
        # Fund 1 loses 250: fund 0 loses 0.6 and fund 1 1.2 of it: 1350 of 150 (9), 700 of 200 (3.5).
        lost = RING + [thing(0, 0, 1), buy(1, 0, 250), price(0, 0)]
        self.assertEqual(last(lost + [issue(0, 53)]), [5, 45])
        self.assertEqual(last(lost + [issue(1, 8)]), [2, 7])
        self.assertEqual(last(lost + [issue(1, 4)]), [1, 4])
        self.assertEqual(last(lost + [redeem(0, 1, 3)]), [10])

    def test_a_ring_of_three(self):
        ring = [fund(0, 100, 300), fund(1, 100, 300), fund(2, 100, 300),
                subscribe(0, 1, 300), subscribe(1, 2, 300), subscribe(2, 0, 300)]
        self.assertEqual(ask(ring)[3:], [[100, 300]] * 3)
        # Each has 300 coins and half of the next one, which is as much again: 600 of 200 units. Fund 0 gains 700:
        # V0 = 1000 + V1/2, V1 = 300 + V2/2, V2 = 300 + V0/2: 1400, 800, 1000.
        gained = ring + [thing(0, 0, 3), buy(0, 0, 100), price(0, 10)]
        self.assertEqual(ask(gained)[-1], [3])
        self.assertEqual(last(gained + [issue(0, 20)]), [2, 14])
        self.assertEqual(last(gained + [issue(1, 20)]), [5, 20])
        self.assertEqual(last(gained + [issue(2, 24)]), [4, 20])
        self.assertEqual([last(gained + [redeem(*deal)]) for deal in ((0, 1, 3), (1, 2, 3), (2, 0, 3))],
                         [[12], [15], [-7]])

    def test_several_rings_at_once(self):
        # Fund 1 is in a ring with 0 and in one with 2; 3 and 4 make a ring of their own; 5 holds 1 and 3.
        calls = [fund(i, 100, 900) for i in range(6)]
        calls += [subscribe(0, 1, 300), subscribe(1, 0, 300), subscribe(1, 2, 450), subscribe(2, 1, 450)]
        calls += [subscribe(3, 4, 180), subscribe(4, 3, 360), subscribe(5, 1, 90), subscribe(5, 3, 90)]
        told = ask(calls)
        self.assertEqual(told[6:10], [[33, 297], [33, 297], [50, 450], [50, 450]])
        self.assertEqual(told[10:], [[20, 180], [40, 360], [10, 90], [10, 90]])
        self.assertEqual(self.units_cost(calls), [[111111, 999999]] * 6)

    def test_several_rings_after_a_gain(self):
        # Each of 0 and 2 holds 100 of 1's 300 units, 1 holds 100 of 200 of each: 900 coins each at the end.
        calls = [fund(0, 100, 900), fund(1, 100, 900), fund(2, 100, 900)]
        calls += [subscribe(0, 1, 900), subscribe(1, 0, 900), subscribe(2, 1, 900), subscribe(1, 2, 900)]
        self.assertEqual(ask(calls)[3:], [[100, 900]] * 4)
        # V1 = 900 + (V0 + V2) / 2 and V0 = 900 + V1 / 3 with a gain of 300 for fund 0:
        # V0 = 1200 + V1/3, V2 = 900 + V1/3, V1 = 900 + 1050 + V1/3: V1 2925, V0 2175, V2 1875.
        gained = calls + [thing(0, 0, 1), buy(0, 0, 300), price(0, 2)]
        self.assertEqual(last(gained + [issue(0, 1000)]), [91, 990])
        self.assertEqual(last(gained + [issue(1, 1000)]), [102, 995])
        self.assertEqual(last(gained + [issue(2, 1000)]), [106, 994])

    def test_a_ring_of_six_with_large_numbers(self):
        # All are alike, so a unit stays worth 1000 coins throughout.
        calls = [fund(i, 1000000, 1000000000) for i in range(6)]
        calls += [subscribe(i, (i + step) % 6, 100000000) for i in range(6) for step in (1, 2, 3)]
        self.assertEqual(ask(calls)[6:], [[100000, 100000000]] * 18)
        self.assertEqual(last(calls + [issue(3, 1999)]), [1, 1000])

    def test_a_ring_falls_apart_again(self):
        told = ask(RING + [redeem(1, 0, 50), redeem(0, 1, 100)] + probes())
        plain = ask(TWO + probes())
        self.assertEqual(told[4:6], [[500], [500]])
        self.assertEqual(told[6:], plain[2:])


if __name__ == "__main__":
    unittest.main()
