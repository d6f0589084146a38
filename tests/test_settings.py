"""The calls clear, thing, price, issuer, fund and limits."""

import unittest

from tests.helper import (ask, buy, changed, clear, fund, issue, issuer, last, limits, price, ranged, redeem,
                          refused_plainly, sell, subscribe, thing)

FAR = 10 ** 18


class Clear(unittest.TestCase):
    def test_answers_0_also_when_nothing_is_there(self):
        self.assertEqual(ask([clear()]), [[0]])
        self.assertEqual(ask([clear(), clear()]), [[0], [0]])

    def test_things_and_funds_are_gone(self):
        before = [thing(3, 2, 5), fund(4, 10, 100), fund(5, 10, 100), buy(4, 3, 1), subscribe(5, 4, 50)]
        after = [price(3, 1), limits(4), issue(4, 1), sell(4, 3, 1), redeem(5, 4, 1), thing(3, 2, 6), fund(4, 10, 7)]
        told = ask(before + [clear()] + after)
        self.assertEqual(told[5:], [[0], [-2], [-2], [-2], [-2], [-2], [0], [0]])

    def test_a_fund_that_comes_back_has_nothing_of_before(self):
        before = [thing(0, 0, 1), fund(0, 10, 100), fund(1, 10, 100), buy(0, 0, 10), subscribe(0, 1, 50), limits(0, 0, 0, 0, 0)]
        after = [thing(0, 0, 1), fund(0, 10, 100), fund(1, 10, 100), sell(0, 0, 1), redeem(0, 1, 1), issue(1, 10), buy(0, 0, 100)]
        told = ask(before + [clear()] + after)
        self.assertEqual(told[-4:], [[-5], [-5], [1, 10], [100]])

    def test_groups_are_0_again(self):
        told = ask([issuer(number, 3) for number in range(8)] + [clear()] + [issuer(number, 1) for number in range(8)])
        self.assertEqual(told, [[0]] * 17)


class Thing(unittest.TestCase):
    def test_is_there_with_its_price(self):
        self.assertEqual(ask([thing(7, 3, 12), price(7, 5)]), [[0], [12]])

    def test_each_of_twelve(self):
        told = ask([thing(k, k % 8, k) for k in range(12)] + [price(k, 0) for k in range(12)])
        self.assertEqual(told, [[0]] * 12 + [[k] for k in range(12)])

    def test_ranges(self):
        ranged(self, [], thing(0, 0, 1), 1, 0, 11)
        ranged(self, [], thing(0, 0, 1), 2, 0, 7)
        ranged(self, [], thing(0, 0, 1), 3, 0, 1000000)

    def test_the_highest_price_is_kept(self):
        self.assertEqual(ask([thing(11, 7, 1000000), price(11, 1000000)]), [[0], [1000000]])

    def test_there_already(self):
        refused_plainly(self, [thing(2, 3, 4), fund(0, 1, 50)], thing(2, 5, 6), -4)
        refused_plainly(self, [thing(2, 3, 4)], thing(2, 3, 4), -4)

    def test_out_of_range_before_there_already(self):
        for call in (thing(2, 8, 4), thing(2, -1, 4), thing(2, 3, -1), thing(2, 3, 1000001)):
            refused_plainly(self, [thing(2, 3, 4)], call, -1)

    def test_its_issuer_stays_the_first_told(self):
        # One issuer may have half: the thing counts for issuer 3, not for the refused call's issuer.
        calls = [thing(2, 3, 1), thing(2, 5, 1), thing(4, 5, 1), fund(0, 10, 100), limits(0, one=500000)]
        told = ask(calls + [buy(0, 2, 50), buy(0, 4, 50), price(4, 1)])
        self.assertEqual(told[-3:], [[50], [50], [1]])


class Price(unittest.TestCase):
    def test_answers_the_price_before(self):
        self.assertEqual(ask([thing(1, 0, 9), price(1, 4), price(1, 0), price(1, 7)]), [[0], [9], [4], [0]])

    def test_range(self):
        ranged(self, [thing(1, 0, 9), fund(0, 3, 50), buy(0, 1, 2)], price(1, 5), 2, 0, 1000000)
        self.assertEqual(ask([thing(1, 0, 9), price(1, 1000000), price(1, 3)])[2], [1000000])

    def test_not_there(self):
        for k in (0, 2, 11, 12, -1, FAR, -FAR):
            refused_plainly(self, [thing(1, 0, 9)], price(k, 5), -2)

    def test_not_there_before_out_of_range(self):
        refused_plainly(self, [thing(1, 0, 9)], price(2, 1000001), -2)
        refused_plainly(self, [thing(1, 0, 9)], price(-1, -1), -2)

    def test_only_this_thing_has_it(self):
        told = ask([thing(1, 0, 9), thing(2, 0, 9), price(1, 4), price(2, 5)])
        self.assertEqual(told[-1], [9])

    def test_the_funds_pieces_are_worth_it(self):
        calls = [thing(0, 0, 5), fund(0, 10, 100), buy(0, 0, 10), price(0, 25)]
        self.assertEqual(last(calls + [issue(0, 90)]), [3, 90])
        self.assertEqual(last(calls + [sell(0, 0, 2)]), [50])


class Issuer(unittest.TestCase):
    def test_answers_its_group_before(self):
        told = ask([issuer(5, 2), issuer(5, 3), issuer(5, 0), issuer(5, 1), issuer(4, 1)])
        self.assertEqual(told, [[0], [2], [3], [0], [0]])

    def test_ranges(self):
        ranged(self, [], issuer(1, 1), 1, 0, 7)
        ranged(self, [], issuer(1, 1), 2, 0, 3)

    def test_needs_no_thing(self):
        self.assertEqual(ask([issuer(7, 3), issuer(7, 3)]), [[0], [3]])


class Fund(unittest.TestCase):
    def test_is_there_with_its_units_and_cash(self):
        self.assertEqual(ask([fund(3, 10, 70), issue(3, 21)]), [[0], [3, 21]])

    def test_each_of_six(self):
        told = ask([fund(i, 1, i + 1) for i in range(6)] + [issue(i, i + 1) for i in range(6)])
        self.assertEqual(told, [[0]] * 6 + [[1, i + 1] for i in range(6)])

    def test_ranges(self):
        ranged(self, [], fund(0, 1, 1), 1, 0, 5)
        ranged(self, [], fund(0, 1, 1), 2, 1, 1000000)
        ranged(self, [], fund(0, 1, 1), 3, 0, 1000000000)

    def test_the_ends_are_kept(self):
        self.assertEqual(ask([fund(5, 1000000, 1000000000), issue(5, 1000)]), [[0], [1, 1000]])
        self.assertEqual(ask([fund(0, 1, 0), issue(0, 1000)]), [[0], [-6]])

    def test_there_already(self):
        refused_plainly(self, [fund(2, 3, 4)], fund(2, 5, 6), -4)
        refused_plainly(self, [fund(2, 3, 4)], fund(2, 3, 4), -4)

    def test_out_of_range_before_there_already(self):
        for call in (fund(2, 0, 4), fund(2, 1000001, 4), fund(2, 3, -1), fund(2, 3, 1000000001)):
            refused_plainly(self, [fund(2, 3, 4)], call, -1)

    def test_holds_nothing_at_first(self):
        told = ask([thing(k, 0, 1) for k in range(12)] + [fund(i, 9, 9) for i in range(6)]
                   + [sell(2, k, 1) for k in range(12)] + [redeem(2, j, 1) for j in range(6) if j != 2])
        self.assertEqual(told[18:], [[-5]] * 17)

    def test_limits_let_all_at_first(self):
        calls = [thing(0, 0, 1), fund(0, 10, 100), buy(0, 0, 100)]
        self.assertEqual(last(calls), [100])


class Limits(unittest.TestCase):
    def test_answers_0(self):
        self.assertEqual(ask([fund(1, 1, 1), limits(1, 1, 2, 3, 4)]), [[0], [0]])

    def test_ranges(self):
        for place in range(2, 6):
            ranged(self, [fund(1, 1, 1)], limits(1, 5, 5, 5, 5), place, 0, 1000000)

    def test_not_there(self):
        for i in (0, 2, 6, -1, FAR, -FAR):
            refused_plainly(self, [fund(1, 10, 100)], limits(i), -2)

    def test_not_there_before_out_of_range(self):
        refused_plainly(self, [fund(1, 10, 100)], limits(0, -1, -1, -1, -1), -2)

    def test_a_refusal_changes_none_of_the_four(self):
        # A refused call must not have set the limits before the one that's out of range.
        calls = [thing(0, 0, 1), fund(0, 10, 100)]
        for place in range(2, 6):
            refused = changed(limits(0, 0, 0, 0, 0), place, 1000001)
            self.assertEqual(ask(calls + [refused, buy(0, 0, 100)])[-2:], [[-1], [100]])
            refused_plainly(self, calls, refused, -1)

    def test_each_limit_is_its_own(self):
        calls = [thing(0, 0, 1), fund(0, 10, 100)]
        self.assertEqual(last(calls + [limits(0, large=0), buy(0, 0, 50)]), [50])
        self.assertEqual(last(calls + [limits(0, large=0, together=0), buy(0, 0, 50)]), [-8])
        self.assertEqual(last(calls + [limits(0, together=0), buy(0, 0, 50)]), [50])
        self.assertEqual(last(calls + [limits(0, one=0), buy(0, 0, 50)]), [-8])
        self.assertEqual(last(calls + [limits(0, group=0), buy(0, 0, 50)]), [-8])

    def test_only_this_fund_has_them(self):
        calls = [thing(0, 0, 1), fund(0, 10, 100), fund(1, 10, 100), limits(0, 0, 0, 0, 0), buy(1, 0, 50), buy(0, 0, 1)]
        self.assertEqual(ask(calls)[-2:], [[50], [-8]])

    def test_told_again(self):
        calls = [thing(0, 0, 1), fund(0, 10, 100), limits(0, one=0), buy(0, 0, 1), limits(0, one=10000), buy(0, 0, 1)]
        self.assertEqual(ask(calls)[-3:], [[-8], [0], [1]])


if __name__ == "__main__":
    unittest.main()
