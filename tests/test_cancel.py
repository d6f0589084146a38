"""The call cancel, and redeem, subscribe and issue where units outside have been given back."""

import unittest

from tests.helper import (ask, breaches, buy, cancel, fund, fundat, holding, issue, last, limits, looked, price, ranged,
                          redeem, refused_plainly, sell, subscribe, sums, thing, through, value)

FAR = 10 ** 18
TWO = [fund(0, 100, 1000), fund(1, 100, 500)]
# The document's example: W of 0 is 10 and W of 1 is 5, in a ring.
RING = TWO + [subscribe(0, 1, 500), subscribe(1, 0, 500)]
# Each of three has 300 coins and 100 of the next one's 200 units at 3 coins; 100 of each are outside.
THREE = [fund(0, 100, 300), fund(1, 100, 300), fund(2, 100, 300),
         subscribe(0, 1, 300), subscribe(1, 2, 300), subscribe(2, 0, 300)]
# Fund 1 has 100 units, all of them fund 0's, and 500 coins.
WHOLLY_HELD = TWO + [subscribe(0, 1, 500), cancel(1, 100)]
# Fund 0 has 3 of fund 1's 8 units and fund 2 the other 5; fund 1 has all 5 of fund 2's. A unit is 100 coins, of
# which fund 1 has 300 and fund 2 none; nothing of them is outside.
PAIR = [fund(0, 10, 1000), fund(1, 10, 1000), fund(2, 10, 1000), subscribe(1, 2, 500), subscribe(2, 1, 500),
        subscribe(0, 1, 300), cancel(1, 10), cancel(2, 10)]


class Cancel(unittest.TestCase):
    def test_answers_what_is_paid(self):
        self.assertEqual(ask(TWO + [cancel(0, 30), cancel(1, 30), cancel(0, 1)])[2:], [[300], [150], [10]])

    def test_it_is_paid_out_of_the_cash_and_the_units_are_gone(self):
        before = ask(RING + [cancel(0, 30), fundat(0), fundat(1), value(0), value(1), holding(0), holding(1)])[4:]
        self.assertEqual(before[:3], [[300], [70, 700] + [1000000] * 4, [100, 500] + [1000000] * 4])
        self.assertEqual(before[3:5], [[1200, 10000000, 700, 120, 70], [1000, 5000000, 500, 200, 100]])
        self.assertEqual(before[5:], [[0] * 13 + [100, 0, 0, 0, 0], [0] * 12 + [50, 0, 0, 0, 0, 0]])

    def test_what_is_paid_is_rounded_down(self):
        before = [fund(1, 3, 10)]
        self.assertEqual([last(before + [cancel(1, n)]) for n in (1, 2)], [[3], [6]])
        # What is rounded stays: 7 coins for 2 units.
        self.assertEqual(last(before + [cancel(1, 1), value(1)]), [7, 3500000, 7, 2, 2])
        self.assertEqual(ask(before + [cancel(1, 1), cancel(1, 1), value(1)])[2:], [[3], [4, 4000000, 4, 1, 1]])

    def test_in_a_ring_with_w_no_whole_number(self):
        # Fund 1 loses 250: W0 is 9 and W1 is 3.5.
        lost = RING + [thing(0, 0, 1), buy(1, 0, 250), price(0, 0)]
        self.assertEqual([last(lost + [cancel(1, n)]) for n in (1, 2, 3, 71)], [[3], [7], [10], [248]])
        self.assertEqual(last(lost + [cancel(0, 7)]), [63])

    def test_worth_less_than_a_coin(self):
        self.assertEqual(ask([fund(0, 100, 1), cancel(0, 99), value(0)])[1:], [[0], [1, 1000000, 1, 1, 1]])

    def test_worthless_units(self):
        self.assertEqual(ask([fund(0, 10, 0), cancel(0, 9), fundat(0)])[1:], [[0], [1, 0] + [1000000] * 4])

    def test_units_that_were_issued(self):
        self.assertEqual(ask(TWO + [issue(0, 200), cancel(0, 119), value(0)])[2:],
                         [[20, 200], [1190], [10, 10000000, 10, 1, 1]])

    def test_all_units_outside_where_others_hold_some(self):
        told = ask(WHOLLY_HELD + [value(1), value(0), through(0, 1), fundat(1)])[3:]
        self.assertEqual(told, [[500], [500, 5000000, 500, 100, 0], [1000, 10000000, 500, 100, 100], [1000000],
                                [0, 500] + [1000000] * 4])

    def test_all_units_outside_of_one_in_a_ring(self):
        told = ask(RING + [cancel(0, 100), value(0), value(1), through(1, 0), cancel(0, 1)])[4:]
        self.assertEqual(told, [[1000], [500, 10000000, 0, 50, 0], [1000, 5000000, 500, 200, 100], [2000000], [-5]])

    def test_all_units_outside_of_five_in_a_ring(self):
        calls = [fund(i, 10, 100) for i in range(6)] + [subscribe(i, (i + 1) % 6, 50) for i in range(6)]
        told = ask(calls + [cancel(i, 10) for i in range(5)] + [value(i) for i in range(6)])
        self.assertEqual(told[6:17], [[5, 50]] * 6 + [[100]] * 5)
        # Each holds all units of the next one; the last one has 10 of its 15 units outside and 100 coins.
        self.assertEqual(told[17:], [[50, 10000000, 0, 5, 0]] * 5 + [[150, 10000000, 100, 15, 10]])

    def test_needs_no_leave(self):
        # Fund 0's exposure of 200 grows from a fifth to two fifths of its worth.
        before = [thing(0, 0, 1), fund(0, 100, 1000), buy(0, 0, 200), limits(0, 0, 0, 0, 0)]
        self.assertEqual(last(before + [cancel(0, 50)]), [500])

    def test_range(self):
        before = [fund(1, 1000000, 1000000), issue(1, 9000000)]
        ranged(self, before, cancel(1, 1), 2, 1, 10000000)
        self.assertEqual(last(before + [cancel(1, 1)]), [1])
        self.assertEqual(last(before + [cancel(1, 9999999)]), [9999999])
        # With ten million units outside nobody else can hold one.
        self.assertEqual(last(before + [cancel(1, 10000000)]), [-9])

    def test_not_there(self):
        for missing in (2, 6, -1, FAR, -FAR):
            refused_plainly(self, RING, cancel(missing, 5), -2)
            refused_plainly(self, RING, cancel(missing, 0), -2)
        self.assertEqual(last([cancel(0, 1)]), [-2])

    def test_out_of_range_before_fewer(self):
        refused_plainly(self, RING, cancel(0, 10000001), -1)
        refused_plainly(self, RING, cancel(1, 0), -1)

    def test_fewer_are_outside(self):
        refused_plainly(self, TWO, cancel(0, 101), -5)
        # Those that funds hold aren't outside.
        refused_plainly(self, RING, cancel(0, 101), -5)
        refused_plainly(self, RING, cancel(1, 200), -5)
        refused_plainly(self, WHOLLY_HELD, cancel(1, 1), -5)

    def test_just_as_much_as_the_cash_and_one_coin_more(self):
        # Fund 1 has 99 coins left of 500; a unit is 5 coins.
        before = TWO + [thing(0, 0, 1), buy(1, 0, 401)]
        refused_plainly(self, before, cancel(1, 20), -7)
        self.assertEqual(last(before + [cancel(1, 19)]), [95])
        self.assertEqual(ask(before + [sell(1, 0, 1), cancel(1, 20), fundat(1)])[-2:],
                         [[100], [80, 0] + [1000000] * 4])

    def test_what_is_paid_counts_when_it_has_been_rounded(self):
        # Two units are 6 coins and two thirds.
        before = [thing(0, 0, 1), fund(1, 3, 10)]
        self.assertEqual(last(before + [buy(1, 0, 4), cancel(1, 2)]), [6])
        refused_plainly(self, before + [buy(1, 0, 5)], cancel(1, 2), -7)

    def test_just_as_much_as_the_cash_in_a_ring(self):
        # Fund 0 has 1000 coins and its units outside are worth 1000.
        self.assertEqual(last(RING + [cancel(0, 100)]), [1000])
        refused_plainly(self, RING + [thing(0, 0, 1), buy(0, 0, 1)], cancel(0, 100), -7)
        self.assertEqual(last(RING + [thing(0, 0, 1), buy(0, 0, 1), cancel(0, 99)]), [990])

    def test_fewer_before_no_cash(self):
        refused_plainly(self, TWO + [thing(0, 0, 1), buy(0, 0, 1000)], cancel(0, 101), -5)
        refused_plainly(self, TWO + [thing(0, 0, 1), buy(0, 0, 1000)], cancel(0, 100), -7)

    def test_no_cash_before_owned_wholly(self):
        before = TWO + [thing(0, 0, 1), buy(0, 0, 1)]
        refused_plainly(self, before, cancel(0, 100), -7)
        refused_plainly(self, before + [sell(0, 0, 1)], cancel(0, 100), -9)
        ring = RING + [cancel(0, 100), thing(0, 0, 1), buy(1, 0, 1)]
        refused_plainly(self, ring, cancel(1, 100), -7)
        refused_plainly(self, ring + [sell(1, 0, 1)], cancel(1, 100), -9)

    def test_fewer_before_owned_wholly(self):
        refused_plainly(self, [fund(0, 10, 0)], cancel(0, 11), -5)
        refused_plainly(self, [fund(0, 10, 0)], cancel(0, 10), -9)


class CancelOwnedWholly(unittest.TestCase):
    def last_unit_stays(self, before, j, outside, paid):
        """All units outside of fund j can't be given back; all but one can, and that one can't then."""
        refused_plainly(self, before, cancel(j, outside), -9)
        self.assertEqual(last(before + [cancel(j, outside - 1)]), [paid])
        refused_plainly(self, before + [cancel(j, outside - 1)], cancel(j, 1), -9)

    def test_one_fund_alone(self):
        self.last_unit_stays([fund(3, 10, 100)], 3, 10, 90)
        self.last_unit_stays([fund(3, 10, 0)], 3, 10, 0)
        refused_plainly(self, [fund(3, 1, 5)], cancel(3, 1), -9)

    def test_one_fund_beside_others(self):
        self.last_unit_stays(TWO, 1, 100, 495)
        # Fund 0 holds units of 1, worth nothing now, and nobody holds fund 0's: 990 coins for 100 units.
        before = [fund(0, 100, 1000), fund(1, 10, 10), subscribe(0, 1, 10), thing(0, 0, 1), buy(1, 0, 20), price(0, 0)]
        self.last_unit_stays(before, 0, 100, 980)

    def test_two_in_a_ring(self):
        self.last_unit_stays(RING + [cancel(0, 100)], 1, 100, 495)
        self.last_unit_stays(RING + [cancel(1, 100)], 0, 100, 990)

    def test_three_in_a_ring(self):
        for order in ((0, 1, 2), (1, 2, 0), (2, 0, 1), (2, 1, 0)):
            self.last_unit_stays(THREE + [cancel(order[0], 100), cancel(order[1], 100)], order[2], 100, 297)

    def test_beside_sound_funds(self):
        # Funds 4 and 5 are a sound ring of their own.
        beside = [fund(4, 10, 100), fund(5, 10, 100), subscribe(4, 5, 50), subscribe(5, 4, 50)]
        self.last_unit_stays(beside + RING + [cancel(0, 100)], 1, 100, 495)
        self.last_unit_stays(beside + THREE + [cancel(0, 100), cancel(1, 100)], 2, 100, 297)

    def test_a_ring_that_holds_another_fund(self):
        # Fund 0 holds 10 of fund 2's 20 units, which are worthless: that helps nobody above fund 2.
        before = [thing(0, 0, 1), fund(2, 10, 10), fund(0, 100, 1010), fund(1, 100, 500), subscribe(0, 2, 10),
                  buy(2, 0, 20), price(0, 0), subscribe(0, 1, 500), subscribe(1, 0, 500), cancel(1, 100)]
        self.assertEqual(ask(before)[4:], [[10, 10], [20], [1], [100, 500], [50, 500], [500]])
        self.last_unit_stays(before, 0, 100, 990)
        # With fund 2 wholly the ring's the ring still can't do without somebody outside.
        self.assertEqual(last(before + [cancel(2, 10)]), [0])
        self.last_unit_stays(before + [cancel(2, 10)], 0, 100, 990)

    def test_somebody_else_holds_one_of_the_ring(self):
        # A unit that fund 4, from without, has of fund 1 is enough: W stays 10 and 5 with only 5 coins beneath.
        other = [fund(4, 10, 100), subscribe(4, 1, 5), cancel(0, 100), cancel(1, 100)]
        told = ask(RING + other + [value(0), value(1), value(4), through(0, 1), through(4, 1), sums()])[5:]
        self.assertEqual(told[:3], [[1, 5], [1000], [500]])
        self.assertEqual(told[3:6], [[500, 10000000, 0, 50, 0], [505, 5000000, 5, 101, 0],
                                     [100, 10000000, 95, 10, 10]])
        self.assertEqual(told[6:], [[100000000], [1000000], [0, 100, 100]])

    def test_the_one_from_without_goes_too(self):
        # Fund 3 has 27 coins and a unit of fund 2, now worthless; it is all that anybody outside has of these four.
        before = THREE + [fund(3, 10, 30), subscribe(3, 2, 3), cancel(0, 100), cancel(1, 100), cancel(2, 100),
                          thing(0, 0, 1), buy(2, 0, 3), price(0, 0)]
        self.assertEqual(ask(before)[7:], [[1, 3], [300], [300], [300], [0], [3], [1]])
        self.last_unit_stays(before, 3, 10, 24)
        refused_plainly(self, before, redeem(3, 2, 1), -9)


class RedeemBehindCancel(unittest.TestCase):
    def last_unit_stays(self, before, i, j, units, paid):
        """All of fund i's units of j can't be given back; all but one can, and that one can't then."""
        refused_plainly(self, before, redeem(i, j, units), -9)
        self.assertEqual(last(before + [redeem(i, j, units - 1)]), [paid])
        refused_plainly(self, before + [redeem(i, j, units - 1)], redeem(i, j, 1), -9)

    def test_no_units_would_be_left(self):
        self.last_unit_stays(WHOLLY_HELD, 0, 1, 100, 495)

    def test_two_would_own_one_another(self):
        self.assertEqual(ask(PAIR)[3:], [[5, 500], [5, 500], [3, 300], [1000], [1000]])
        self.last_unit_stays(PAIR, 0, 1, 3, 200)

    def test_three_would_own_one_another(self):
        before = THREE + [fund(5, 10, 60), subscribe(5, 1, 60), cancel(0, 100), cancel(2, 100), cancel(1, 100)]
        self.assertEqual(ask(before)[7:], [[20, 60], [300], [300], [300]])
        self.last_unit_stays(before, 5, 1, 20, 57)

    def test_beside_sound_funds(self):
        beside = [fund(3, 10, 100), fund(4, 10, 100), subscribe(3, 4, 50), subscribe(4, 3, 50)]
        self.last_unit_stays(beside + PAIR, 0, 1, 3, 200)
        self.last_unit_stays(beside + WHOLLY_HELD, 0, 1, 100, 495)

    def test_within_the_ring_it_goes_on(self):
        # Fund 2 gives back its units of 1: fund 0 has all of 1 then, and 1 all of 2.
        sold = PAIR + [fund(5, 1, 200), subscribe(5, 1, 200)]
        self.assertEqual(ask(sold + [redeem(2, 1, 5), value(1), value(2)])[9:],
                         [[2, 200], [500], [500, 100000000, 0, 5, 0], [500, 100000000, 500, 5, 0]])
        # Fund 1 can't give back all its units of 2, of which it is the one holder.
        refused_plainly(self, sold + [redeem(2, 1, 5)], redeem(1, 2, 5), -9)
        self.assertEqual(last(sold + [redeem(2, 1, 5), redeem(1, 2, 4)]), [400])

    def test_another_holder_is_enough(self):
        before = PAIR + [fund(4, 1, 100), subscribe(4, 1, 100)]
        self.assertEqual(ask(before + [redeem(0, 1, 3), value(1)])[9:], [[1, 100], [300], [600, 100000000, 100, 6, 0]])

    def test_not_there_and_out_of_range_before_owned_wholly(self):
        refused_plainly(self, WHOLLY_HELD, redeem(2, 1, 100), -2)
        refused_plainly(self, WHOLLY_HELD, redeem(0, 2, 100), -2)
        refused_plainly(self, WHOLLY_HELD, redeem(1, 1, 100), -1)
        refused_plainly(self, WHOLLY_HELD, redeem(0, 1, 10000001), -1)
        refused_plainly(self, WHOLLY_HELD, redeem(0, 1, 0), -1)

    def test_fewer_before_owned_wholly(self):
        refused_plainly(self, WHOLLY_HELD, redeem(0, 1, 101), -5)
        refused_plainly(self, PAIR, redeem(0, 1, 4), -5)

    def test_no_cash_before_owned_wholly(self):
        spent = [thing(0, 0, 1), buy(1, 0, 1)]
        refused_plainly(self, WHOLLY_HELD + spent, redeem(0, 1, 100), -7)
        refused_plainly(self, WHOLLY_HELD + spent + [sell(1, 0, 1)], redeem(0, 1, 100), -9)
        refused_plainly(self, PAIR + spent, redeem(0, 1, 3), -7)
        refused_plainly(self, PAIR + spent + [price(0, 0)], redeem(0, 1, 3), -9)

    def test_fewer_before_no_cash(self):
        refused_plainly(self, WHOLLY_HELD + [thing(0, 0, 1), buy(1, 0, 500)], redeem(0, 1, 101), -5)


class BuyingBehindCancel(unittest.TestCase):
    def test_somebody_outside_comes_back(self):
        told = ask(WHOLLY_HELD + [issue(1, 12), value(1), redeem(0, 1, 100), value(1)])[4:]
        self.assertEqual(told, [[2, 10], [510, 5000000, 510, 102, 2], [500], [10, 5000000, 10, 2, 2]])

    def test_a_wholly_held_fund_subscribes(self):
        # New units take nobody outside away: fund 1 buys of fund 0, which holds it, and the other way.
        told = ask(WHOLLY_HELD + [subscribe(1, 0, 400), subscribe(0, 1, 450), value(0), value(1)])[4:]
        self.assertEqual(told, [[40, 400], [90, 450], [1400, 10000000, 450, 140, 100], [950, 5000000, 550, 190, 0]])

    def test_all_funds_but_one_without_units_outside(self):
        told = ask(PAIR + [subscribe(1, 0, 300), subscribe(0, 2, 400)] + looked())[8:10]
        self.assertEqual(told, [[3, 300], [4, 400]])

    def test_the_exposure_of_a_wholly_held_fund(self):
        # Fund 0 may have a tenth of its worth of 1000 in one issuer; all that fund 1 has is its own.
        before = WHOLLY_HELD + [thing(0, 0, 1), buy(1, 0, 60), limits(0, one=100000)]
        self.assertEqual(ask(before + [buy(0, 0, 40), breaches(0)])[-2:], [[40], [0]])
        refused_plainly(self, before, buy(0, 0, 41), -8)


if __name__ == "__main__":
    unittest.main()
