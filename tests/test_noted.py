"""The call breaches: what is noted behind which calls, in which order, and since which day."""

import unittest

from tests.helper import (ask, breaches, buy, cancel, clear, exposure, fund, fundat, group, holding, issue, issuer,
                          last, limits, looked, price, redeem, refused_plainly, rounds, sell, subscribe, sums, thing,
                          through, tick, value)

FAR = 10 ** 18
# Three things, one an issuer, at a coin a piece; two funds with 100 units and 1000 coins each.
START = [thing(0, 0, 1), thing(1, 1, 1), thing(2, 2, 1), fund(0, 100, 1000), fund(1, 100, 1000)]


def told_of(before, calls):
    return ask(before + calls)[len(before):]


class Breaches(unittest.TestCase):
    def test_none(self):
        self.assertEqual(told_of(START, [breaches(0), breaches(1)]), [[0], [0]])
        self.assertEqual(told_of(START + [buy(0, 0, 1000), limits(0)], [breaches(0)]), [[0]])

    def test_not_there(self):
        for missing in (2, 6, -1, FAR, -FAR):
            refused_plainly(self, START, breaches(missing), -2)
        self.assertEqual(last([breaches(0)]), [-2])

    def test_one_issuer(self):
        before = START + [buy(0, 2, 300)]
        self.assertEqual(last(before + [limits(0, one=300000), breaches(0)]), [0])
        self.assertEqual(last(before + [limits(0, one=299999), breaches(0)]), [1, 1, 2, 0])

    def test_all_large_ones(self):
        before = START + [buy(0, 0, 300), buy(0, 1, 200), buy(0, 2, 100)]
        self.assertEqual(last(before + [limits(0, large=100000, together=500000), breaches(0)]), [0])
        self.assertEqual(last(before + [limits(0, large=100000, together=499999), breaches(0)]), [1, 2, 0, 0])
        self.assertEqual(last(before + [limits(0, large=99999, together=599999), breaches(0)]), [1, 2, 0, 0])
        self.assertEqual(last(before + [limits(0, large=300000, together=0), breaches(0)]), [0])

    def test_a_group(self):
        before = START + [issuer(0, 3), issuer(2, 3), buy(0, 0, 100), buy(0, 1, 150), buy(0, 2, 100)]
        self.assertEqual(last(before + [limits(0, group=200000), breaches(0)]), [0])
        self.assertEqual(last(before + [limits(0, group=199999), breaches(0)]), [1, 3, 3, 0])
        self.assertEqual(last(before + [limits(0, group=149999), breaches(0)]), [2, 3, 0, 0, 3, 3, 0])

    def test_the_order_by_kinds_then_which(self):
        before = [thing(k, 7 - k, 1) for k in range(8)] + [fund(0, 100, 1000)] + [buy(0, k, 100) for k in range(8)]
        before += [issuer(7, 0), issuer(6, 3), issuer(0, 2), issuer(1, 1), limits(0, 0, 0, 0, 0)]
        rows = [[1, number, 0] for number in range(8)] + [[2, 0, 0]] + [[3, which, 0] for which in range(4)]
        self.assertEqual(last(before + [breaches(0)]), [13] + sum(rows, []))

    def test_the_order_is_not_that_of_their_days(self):
        before = START + [buy(0, 0, 10), buy(0, 1, 200), buy(0, 2, 100)]
        calls = [limits(0, one=150000), tick(1), limits(0, one=90000), tick(1), limits(0, one=90000, group=0), tick(1),
                 limits(0, one=0, group=0), tick(1), limits(0, 0, 0, 0, 0), breaches(0)]
        self.assertEqual(last(before + calls), [5, 1, 0, 3, 1, 1, 0, 1, 2, 1, 2, 0, 4, 3, 0, 2])

    def test_each_fund_has_its_own(self):
        before = START + [buy(0, 0, 100), buy(1, 1, 100), limits(0, one=0), tick(4), limits(1, group=0)]
        self.assertEqual(told_of(before, [breaches(0), breaches(1)]), [[1, 1, 0, 0], [1, 3, 0, 4]])

    def test_a_worth_of_0_is_no_breach(self):
        before = START + [buy(0, 0, 1000), limits(0, 0, 0, 0, 0)]
        self.assertEqual(last(before + [breaches(0)]), [3, 1, 0, 0, 2, 0, 0, 3, 0, 0])
        self.assertEqual(last(before + [price(0, 0), breaches(0)]), [0])

    def test_in_a_ring(self):
        # The document's ring: 1.2 x 250 of 1500 are a fifth for fund 0, 0.4 x 250 of 1000 a tenth for fund 1.
        ring = [thing(0, 4, 1), fund(0, 100, 1000), fund(1, 100, 500), subscribe(0, 1, 500), subscribe(1, 0, 500),
                buy(0, 0, 250)]
        self.assertEqual(told_of(ring + [limits(0, one=200000), limits(1, one=100000)], [breaches(0), breaches(1)]),
                         [[0], [0]])
        self.assertEqual(told_of(ring + [limits(0, one=199999), limits(1, one=99999)], [breaches(0), breaches(1)]),
                         [[1, 1, 4, 0], [1, 1, 4, 0]])

    def test_compared_exactly(self):
        before = [thing(0, 0, 1), fund(0, 100, 3), buy(0, 0, 1)]
        self.assertEqual(last(before + [limits(0, one=333333), breaches(0)]), [1, 1, 0, 0])
        self.assertEqual(last(before + [limits(0, one=333334), breaches(0)]), [0])


class Days(unittest.TestCase):
    def test_keeps_its_day_and_comes_again_with_a_new_one(self):
        before = START + [limits(0, one=200000), buy(0, 0, 200), tick(2), price(0, 2)]
        self.assertEqual(last(before + [breaches(0)]), [1, 1, 0, 2])
        stays = before + [tick(1), price(0, 3), tick(1), limits(0, one=100000), sell(0, 0, 1), tick(1)]
        self.assertEqual(last(stays + [breaches(0)]), [1, 1, 0, 2])
        gone = before + [tick(1), price(0, 1)]
        self.assertEqual(last(gone + [breaches(0)]), [0])
        self.assertEqual(last(gone + [tick(2), price(0, 2), tick(1), price(0, 4), breaches(0)]), [1, 1, 0, 5])

    def test_comes_again_on_the_same_day(self):
        before = START + [limits(0, one=200000), buy(0, 0, 200), price(0, 2), tick(3)]
        self.assertEqual(last(before + [price(0, 1), price(0, 2), breaches(0)]), [1, 1, 0, 3])

    def test_one_goes_and_the_others_stay(self):
        before = START + [buy(0, 0, 300), buy(0, 1, 200), tick(1), limits(0, one=100000), tick(1)]
        self.assertEqual(last(before + [sell(0, 0, 200), breaches(0)]), [1, 1, 1, 1])
        self.assertEqual(last(before + [sell(0, 1, 100), tick(5), buy(0, 2, 100), price(2, 2), breaches(0)]),
                         [2, 1, 0, 1, 1, 2, 7])

    def test_the_group_of_an_issuer_changes(self):
        # Another group is another breach: it has this day.
        before = START + [buy(0, 0, 300), limits(0, group=100000), tick(4), issuer(0, 2)]
        self.assertEqual(last(before + [breaches(0)]), [1, 3, 2, 4])
        self.assertEqual(last(before + [tick(1), issuer(0, 2), issuer(5, 2), breaches(0)]), [1, 3, 2, 4])

    def test_clear_forgets(self):
        before = START + [buy(0, 0, 300), tick(4), limits(0, 0, 0, 0, 0), clear()]
        self.assertEqual(last(before + [breaches(0)]), [-2])
        self.assertEqual(told_of(before + START, [breaches(0)]), [[0]])
        self.assertEqual(told_of(before + START + [buy(0, 0, 300), limits(0, one=0)], [breaches(0)]), [[1, 1, 0, 0]])


class Behind(unittest.TestCase):
    """What each call that notes brings in and takes away; on day 3 for what's new."""

    def turns(self, before, fund_i, comes, goes, row):
        """Behind `comes` the breach is noted with the day, behind `goes` it is forgotten."""
        told = told_of(before, [breaches(fund_i), tick(3), comes, breaches(fund_i), tick(1), goes, breaches(fund_i)])
        self.assertEqual(told[0], [0])
        self.assertGreaterEqual(told[2][0], 0)
        self.assertEqual(told[3], [1] + row + [3])
        self.assertGreaterEqual(told[5][0], 0)
        self.assertEqual(told[6], [0])

    def test_price(self):
        before = START + [limits(0, one=200000), buy(0, 0, 200)]
        self.turns(before, 0, price(0, 2), price(0, 1), [1, 0])

    def test_issuer(self):
        before = START + [issuer(0, 1), buy(0, 0, 200), buy(0, 1, 100), limits(0, group=200000)]
        self.turns(before, 0, issuer(1, 1), issuer(0, 2), [3, 1])

    def test_limits(self):
        before = START + [buy(0, 0, 200)]
        self.turns(before, 0, limits(0, one=199999), limits(0, one=200000), [1, 0])

    def test_buy_and_sell(self):
        # Fund 0 has half of fund 1 and may have a tenth of its own worth of 1000 in one issuer.
        before = START + [limits(0, one=100000), subscribe(0, 1, 1000)]
        self.turns(before, 0, buy(1, 0, 201), sell(1, 0, 1), [1, 0])

    def test_sell_takes_away_only(self):
        # 600 of 1400 in issuer 0, then 597.
        before = START + [buy(1, 0, 200), price(0, 3), limits(1, one=428571), tick(1)]
        self.assertEqual(told_of(before, [breaches(1), sell(1, 0, 1), breaches(1)]), [[1, 1, 0, 0], [3], [0]])

    def test_subscribe_by_another(self):
        # Fund 0 puts 500 of its coins into fund 1, which has 200 of 1000 in issuer 0.
        before = START + [buy(1, 0, 200), limits(1, one=150000), tick(2)]
        self.assertEqual(told_of(before, [breaches(1), subscribe(0, 1, 500), breaches(1)]),
                         [[1, 1, 0, 0], [50, 500], [0]])

    def test_subscribe_brings_a_third_fund_into_breach(self):
        # Fund 2 has half of fund 0, which puts coins into fund 1 and so has half of its pieces: 50 of 1000 are fund 2's.
        before = START + [fund(2, 100, 1000), subscribe(2, 0, 1000), buy(1, 0, 200), limits(2, one=49999)]
        self.turns(before, 2, subscribe(0, 1, 1000), redeem(0, 1, 80), [1, 0])

    def test_redeem(self):
        before = START + [buy(1, 0, 200), subscribe(0, 1, 500), limits(1, one=150000)]
        self.turns(before, 1, redeem(0, 1, 50), issue(1, 500), [1, 0])

    def test_issue_and_cancel(self):
        before = START + [buy(1, 0, 200), issue(1, 500), limits(1, one=150000)]
        self.turns(before, 1, cancel(1, 50), issue(1, 500), [1, 0])

    def test_issue_to_one_beneath_takes_it_from_one_above(self):
        # Fund 0 has half of fund 1: 100 of issuer 0 of its worth of 1000. With new units outside it's less.
        before = START + [buy(1, 0, 200), subscribe(0, 1, 1000), limits(0, one=90000)]
        self.assertEqual(told_of(before + [tick(2)], [breaches(0), issue(1, 500), breaches(0), exposure(0, 0)]),
                         [[1, 1, 0, 0], [50, 500], [0], [80, 80000]])

    def test_cancel_brings_one_above_into_breach(self):
        before = START + [buy(1, 0, 200), subscribe(0, 1, 1000), limits(0, one=100000)]
        self.turns(before, 0, cancel(1, 1), issue(1, 10), [1, 0])

    def test_kinds_2_and_3_behind_cancel(self):
        before = START + [buy(1, 0, 200), issue(1, 500), limits(1, large=0, together=150000)]
        self.turns(before, 1, cancel(1, 50), sell(1, 0, 60), [2, 0])
        before = START + [buy(1, 0, 200), issue(1, 500), limits(1, group=150000)]
        self.turns(before, 1, cancel(1, 50), sell(1, 0, 60), [3, 0])

    def test_the_others_change_no_day(self):
        before = START + [buy(0, 0, 200), tick(2), limits(0, one=0), tick(5)]
        others = [thing(5, 0, 1), fund(3, 1, 1), tick(1), value(0), rounds(3), through(0, 1), exposure(0, 0), group(0, 0),
                  breaches(1), holding(0), fundat(0), sums()]
        for call in others:
            self.assertEqual(told_of(before, [call, breaches(0)])[1], [1, 1, 0, 2], call)
            self.assertGreaterEqual(told_of(before, [call])[0][0], 0, call)
        self.assertEqual(told_of(before, others + looked() + [breaches(0)])[-1], [1, 1, 0, 2])

    def test_a_refusal_changes_nothing_noted(self):
        before = START + [fund(2, 100, 10), buy(0, 0, 200), subscribe(2, 0, 10), tick(2), limits(0, one=0), tick(5)]
        refusals = [(price(9, 1), -2), (price(0, -1), -1), (issuer(8, 0), -1), (limits(0, 0, 0, 0, -1), -1),
                    (buy(0, 0, 1), -8), (sell(0, 0, 201), -5), (subscribe(2, 0, 10), -7), (redeem(2, 0, 2), -5),
                    (issue(0, 1), -6), (cancel(0, 101), -5), (cancel(1, 100), -9), (tick(0), -1), (thing(0, 0, 1), -4),
                    (fund(0, 1, 1), -4), (value(5), -2)]
        for call, number in refusals:
            refused_plainly(self, before, call, number)
            self.assertEqual(told_of(before, [call, breaches(0)]), [[number], [1, 1, 0, 2]], call)


if __name__ == "__main__":
    unittest.main()
