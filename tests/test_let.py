"""Buying and subscribing that is let or isn't: the three kinds of breaches."""

import unittest

from tests.helper import (ask, buy, fund, issue, issuer, last, limits, price, redeem, refused_plainly, sell, subscribe,
                          thing)

# Eight things, one an issuer, a coin a piece; fund 0 has a worth of 1000.
ONE_FUND = [thing(k, k, 1) for k in range(8)] + [fund(0, 100, 1000)]
# Fund 1 has half its worth of 1000 in issuer 0's thing; its 100 units are worth 10 each. Fund 0 has 1000 coins.
ABOVE = [thing(0, 0, 1), thing(1, 1, 1), fund(0, 100, 1000), fund(1, 100, 1000), buy(1, 0, 500)]
# The document's ring: of what 0 has itself 1.2 are fund 0's and 0.4 fund 1's, of what 1 has itself 0.6 and 1.2;
# fund 0 is worth 1500 with 1000 coins itself, fund 1 1000 with 500 coins itself.
RING = [thing(0, 0, 1), thing(1, 1, 1), fund(0, 100, 1000), fund(1, 100, 500), subscribe(0, 1, 500),
        subscribe(1, 0, 500)]


class NewBreach(unittest.TestCase):
    def at_limit(self, before, call):
        """The call is let with its last number, and isn't with one more."""
        self.assertGreaterEqual(last(before + [call])[0], 0, call)
        refused_plainly(self, before, call[:-1] + [call[-1] + 1], -8)

    def test_one_issuer(self):
        self.at_limit(ONE_FUND + [limits(0, one=200000)], buy(0, 0, 200))
        self.at_limit(ONE_FUND + [limits(0, one=200999)], buy(0, 7, 200))
        self.at_limit(ONE_FUND + [limits(0, one=200000), buy(0, 0, 150)], buy(0, 0, 50))
        self.at_limit(ONE_FUND + [limits(0, one=200000), buy(0, 0, 200)], buy(0, 3, 200))

    def test_two_things_of_one_issuer(self):
        before = [thing(0, 4, 1), thing(1, 4, 3), fund(0, 100, 1000), limits(0, one=400000)]
        self.at_limit(before + [buy(0, 1, 100)], buy(0, 0, 100))

    def test_a_limit_of_0(self):
        before = ONE_FUND + [limits(0, one=0), thing(8, 0, 0)]
        refused_plainly(self, before, buy(0, 0, 1), -8)
        self.assertEqual(last(before + [buy(0, 8, 1)]), [0])

    def test_all_of_it(self):
        self.assertEqual(last(ONE_FUND + [limits(0), buy(0, 0, 1000)]), [1000])
        refused_plainly(self, ONE_FUND + [limits(0, one=999999)], buy(0, 0, 1000), -8)

    def test_compared_exactly(self):
        # A third is more than 333333 millionths and less than 333334.
        before = [thing(0, 0, 1), fund(0, 100, 3)]
        refused_plainly(self, before + [limits(0, one=333333)], buy(0, 0, 1), -8)
        self.assertEqual(last(before + [limits(0, one=333334), buy(0, 0, 1)]), [1])

    def test_all_large_ones(self):
        before = ONE_FUND + [limits(0, large=100000, together=300000)]
        self.at_limit(before, buy(0, 0, 300))
        self.at_limit(before + [buy(0, 0, 150)], buy(0, 1, 150))
        # 100 of 1000 isn't large yet: with one more 401 are large together.
        self.at_limit(before + [buy(0, 0, 150), buy(0, 1, 150)], buy(0, 2, 100))
        self.at_limit(before + [buy(0, 0, 150), buy(0, 1, 150), buy(0, 2, 100)], buy(0, 3, 100))

    def test_no_large_one_with_the_limit_at_0(self):
        before = ONE_FUND + [limits(0, large=100000, together=0)]
        self.at_limit(before, buy(0, 0, 100))
        self.at_limit(before + [buy(0, 0, 100), buy(0, 1, 100)], buy(0, 2, 100))

    def test_a_group(self):
        before = ONE_FUND + [limits(0, group=250000), issuer(0, 1), issuer(1, 1), issuer(2, 3)]
        self.at_limit(before, buy(0, 0, 250))
        self.at_limit(before + [buy(0, 0, 125)], buy(0, 1, 125))
        self.at_limit(before + [buy(0, 0, 250)], buy(0, 2, 250))
        self.at_limit(before + [buy(0, 0, 250), buy(0, 2, 250)], buy(0, 3, 250))
        # Issuers 3 to 7 are in group 0, as none was told.
        self.at_limit(before + [buy(0, 3, 100), buy(0, 4, 50)], buy(0, 7, 100))

    def test_groups_told_later(self):
        before = ONE_FUND + [limits(0, group=250000), issuer(0, 1), buy(0, 0, 250)]
        self.at_limit(before, buy(0, 1, 250))
        refused_plainly(self, before + [issuer(1, 1)], buy(0, 1, 1), -8)
        self.assertEqual(last(before + [issuer(1, 1), issuer(0, 2), buy(0, 1, 250)]), [250])

    def test_each_kind_alone(self):
        # 300 of 1000 of one issuer are a breach of each kind by a limit of its own.
        for told in (limits(0, one=299999), limits(0, large=299999, together=299999), limits(0, group=299999)):
            refused_plainly(self, ONE_FUND + [told], buy(0, 0, 300), -8)
        for told in (limits(0, one=300000), limits(0, large=300000, together=0), limits(0, large=0, together=300000),
                     limits(0, group=300000)):
            self.assertEqual(last(ONE_FUND + [told, buy(0, 0, 300)]), [300])

    def test_only_the_buyers_breaches_count(self):
        # Fund 2 holds a third of fund 0's units and would be in breach through it; fund 0 buys all the same.
        before = ONE_FUND + [fund(2, 100, 1000), subscribe(2, 0, 500), limits(2, 0, 0, 0, 0)]
        self.assertEqual(last(before + [buy(0, 0, 500)]), [500])

    def test_the_worth_is_that_after_the_price_changed(self):
        before = ONE_FUND + [buy(0, 1, 100), limits(0, one=400000), price(1, 5)]
        # 900 coins and 500: 560 of 1400 at most.
        self.at_limit(before, buy(0, 0, 560))


class OldBreach(unittest.TestCase):
    def test_grows_of_one_issuer(self):
        before = ONE_FUND + [buy(0, 0, 300), limits(0, one=200000)]
        refused_plainly(self, before, buy(0, 0, 1), -8)
        refused_plainly(self, before, buy(0, 0, 700), -8)

    def test_stays_of_one_issuer(self):
        before = ONE_FUND + [buy(0, 0, 300), limits(0, one=200000), thing(8, 0, 0)]
        self.assertEqual(ask(before + [buy(0, 1, 200), buy(0, 8, 5), buy(0, 2, 200)])[-3:], [[200], [0], [200]])
        refused_plainly(self, before, buy(0, 1, 201), -8)

    def test_measured_against_the_moment_before_not_when_it_began(self):
        # 300 of 1000 when it began, 250 now: 251 is more than before, though less than at first.
        before = ONE_FUND + [buy(0, 0, 300), limits(0, one=200000), sell(0, 0, 50)]
        refused_plainly(self, before, buy(0, 0, 1), -8)
        self.assertEqual(last(before + [buy(0, 1, 200)]), [200])
        # Out of breach, back to the limit and no further.
        below = before + [sell(0, 0, 60)]
        self.assertEqual(last(below + [buy(0, 0, 10)]), [10])
        refused_plainly(self, below, buy(0, 0, 11), -8)

    def test_grows_and_stays_of_all_large_ones(self):
        before = ONE_FUND + [buy(0, 0, 200), buy(0, 1, 200), buy(0, 2, 50), limits(0, large=100000, together=300000)]
        refused_plainly(self, before, buy(0, 0, 1), -8)
        refused_plainly(self, before, buy(0, 2, 51), -8)
        self.assertEqual(ask(before + [buy(0, 2, 50), buy(0, 3, 100)])[-2:], [[50], [100]])

    def test_grows_and_stays_of_a_group(self):
        before = ONE_FUND + [issuer(0, 2), issuer(1, 2), buy(0, 0, 300), limits(0, group=200000)]
        refused_plainly(self, before, buy(0, 0, 1), -8)
        refused_plainly(self, before, buy(0, 1, 1), -8)
        self.assertEqual(last(before + [buy(0, 2, 200)]), [200])

    def test_a_breach_of_one_kind_excuses_no_other(self):
        # A breach of its group is there already; one of the issuer itself would be new.
        before = ONE_FUND + [issuer(0, 1), buy(0, 0, 100), limits(0, one=300000, group=50000)]
        refused_plainly(self, before + [issuer(2, 2)], buy(0, 2, 51), -8)
        self.assertEqual(last(before + [issuer(2, 2), buy(0, 2, 50)]), [50])
        # Issuer 0 is in breach already; issuer 1 would be new.
        before = ONE_FUND + [buy(0, 0, 300), limits(0, one=200000)]
        refused_plainly(self, before, buy(0, 1, 201), -8)
        # Group 1 is in breach already; group 2 would be new.
        before = ONE_FUND + [issuer(0, 1), issuer(1, 2), buy(0, 0, 300), limits(0, group=200000)]
        refused_plainly(self, before, buy(0, 1, 201), -8)

    def test_prices_bring_it_there_and_it_may_still_buy_others(self):
        before = ONE_FUND + [limits(0, one=200000), buy(0, 0, 200), price(0, 2)]
        refused_plainly(self, before, buy(0, 0, 1), -8)
        self.assertEqual(last(before + [buy(0, 1, 240)]), [240])
        refused_plainly(self, before, buy(0, 1, 241), -8)

    def test_others_bring_it_there(self):
        # Fund 0 has a quarter of fund 1, which buys more of issuer 0 than fund 0 may have through it.
        before = ABOVE[:4] + [limits(0, one=50000), subscribe(0, 1, 330), buy(1, 0, 400)]
        self.assertEqual(ask(before)[-2:], [[33, 330], [400]])
        refused_plainly(self, before, subscribe(0, 1, 10), -8)
        self.assertEqual(last(before + [buy(0, 1, 50)]), [50])
        refused_plainly(self, before, buy(0, 0, 1), -8)

    def test_rounding_alone_makes_it_grow(self):
        # Fund 1's unit is worth 10/3: 4 coins for it make fund 0 poorer, and so its share of issuer 0 greater.
        before = [thing(0, 0, 1), fund(0, 10, 100), fund(1, 3, 10), buy(0, 0, 50)]
        refused_plainly(self, before + [limits(0, one=400000)], subscribe(0, 1, 4), -8)
        # With 10 coins for three units nothing is rounded, and the share stays.
        self.assertEqual(last(before + [limits(0, one=400000), subscribe(0, 1, 10)]), [3, 10])
        # At the very limit before, rounding makes it new.
        refused_plainly(self, before + [limits(0, one=500000)], subscribe(0, 1, 4), -8)
        self.assertEqual(last(before + [limits(0, one=500000), subscribe(0, 1, 10)]), [3, 10])


class ThroughFunds(unittest.TestCase):
    def test_one_issuer_through_a_fund(self):
        # 25 of 125 units stand for 100 of the 500, a tenth of the worth; a unit more is too much.
        before = ABOVE + [limits(0, one=100000)]
        self.assertEqual(last(before + [subscribe(0, 1, 250)]), [25, 250])
        refused_plainly(self, before, subscribe(0, 1, 260), -8)

    def test_all_large_ones_through_a_fund(self):
        before = ABOVE + [limits(0, large=50000, together=100000)]
        self.assertEqual(last(before + [subscribe(0, 1, 250)]), [25, 250])
        refused_plainly(self, before, subscribe(0, 1, 260), -8)

    def test_a_group_through_a_fund(self):
        before = ABOVE + [limits(0, group=100000)]
        self.assertEqual(last(before + [subscribe(0, 1, 250)]), [25, 250])
        refused_plainly(self, before, subscribe(0, 1, 260), -8)

    def test_what_it_has_itself_and_through_a_fund_together(self):
        before = ABOVE + [subscribe(0, 1, 250), limits(0, one=200000)]
        self.assertEqual(last(before + [buy(0, 0, 100)]), [100])
        refused_plainly(self, before, buy(0, 0, 101), -8)
        self.assertEqual(last(before + [buy(0, 1, 200)]), [200])

    def test_the_cash_of_a_fund_is_no_exposure(self):
        before = ABOVE[:4] + [limits(0, 0, 0, 0, 0)]
        self.assertEqual(last(before + [subscribe(0, 1, 1000)]), [100, 1000])

    def test_through_two_funds(self):
        # Fund 2 has half of fund 0's units, which has a fifth of fund 1: 50 of issuer 0's 500, of a worth of 1000.
        before = ABOVE + [fund(2, 100, 1000), subscribe(0, 1, 250), limits(2, one=50000)]
        self.assertEqual(last(before + [subscribe(2, 0, 1000)]), [100, 1000])
        lower = ABOVE + [fund(2, 100, 1000), subscribe(0, 1, 250), limits(2, one=49999)]
        refused_plainly(self, lower, subscribe(2, 0, 1000), -8)
        self.assertEqual(last(lower + [subscribe(2, 0, 990)]), [99, 990])

    def test_redeeming_makes_room_again(self):
        before = ABOVE + [subscribe(0, 1, 250), limits(0, one=100000), buy(0, 1, 1), redeem(0, 1, 25)]
        self.assertEqual(last(before + [buy(0, 0, 100)]), [100])
        refused_plainly(self, before, buy(0, 0, 101), -8)

    def test_issuing_makes_room(self):
        # Fund 0 grows to a worth of 1500: a tenth is 150 then.
        before = ABOVE + [limits(0, one=100000), issue(0, 500)]
        self.assertEqual(last(before + [buy(0, 0, 150)]), [150])
        refused_plainly(self, before, buy(0, 0, 151), -8)


class ThroughRings(unittest.TestCase):
    def test_buying_in_a_ring(self):
        # 1.2 x 250 = 300 are a fifth of 1500.
        for told in (limits(0, one=200000), limits(0, large=0, together=200000), limits(0, group=200000)):
            self.assertEqual(last(RING + [told, buy(0, 0, 250)]), [250])
            refused_plainly(self, RING + [told], buy(0, 0, 251), -8)
        # 1.2 x 100 = 120 are 12 hundredths of 1000.
        for told in (limits(1, one=120000), limits(1, large=119999, together=120000), limits(1, group=120000)):
            self.assertEqual(last(RING + [told, buy(1, 0, 100)]), [100])
            refused_plainly(self, RING + [told], buy(1, 0, 101), -8)

    def test_what_the_other_one_has_counts(self):
        # Fund 1's 100 pieces give fund 0 an exposure of 60: 1.2 x 200 + 60 = 300.
        before = RING + [limits(0, one=200000), buy(1, 0, 100)]
        self.assertEqual(last(before + [buy(0, 0, 200)]), [200])
        refused_plainly(self, before, buy(0, 0, 201), -8)

    def test_closing_the_ring_by_subscribing(self):
        # Fund 1 has a third of fund 0, whose exposure is 600 of 1500 before it holds any unit of fund 1.
        before = [thing(0, 0, 1), fund(0, 100, 1000), fund(1, 100, 500), subscribe(1, 0, 500), buy(0, 0, 600)]
        self.assertEqual(ask(before)[3:], [[50, 500], [600]])
        # With 50 of fund 1's 150 units P(0, 0) is 1 / (1 - 1/3 x 1/3) = 9/8: 675 of 1500 are 45 hundredths.
        for told in (limits(0, one=450000), limits(0, large=450000, together=0), limits(0, group=450000)):
            self.assertEqual(last(before + [told, subscribe(0, 1, 250)]), [50, 250])
            refused_plainly(self, before + [told], subscribe(0, 1, 255), -8)

    def test_an_old_breach_in_a_ring(self):
        before = RING + [buy(0, 0, 250), limits(0, one=100000)]
        refused_plainly(self, before, buy(0, 0, 1), -8)
        refused_plainly(self, before, subscribe(0, 1, 5), -8)
        self.assertEqual(last(before + [buy(0, 1, 125)]), [125])
        refused_plainly(self, before, buy(0, 1, 126), -8)


if __name__ == "__main__":
    unittest.main()
