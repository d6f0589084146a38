"""The calls buy and sell; buying that isn't let stands in test_let.py."""

import unittest

from tests.helper import ask, buy, fund, issue, last, limits, price, ranged, refused_plainly, sell, subscribe, thing

FAR = 10 ** 18
SMALL = [thing(0, 0, 5), thing(3, 2, 7), fund(0, 10, 100), fund(2, 10, 60)]
TEN_MILLION = [thing(0, 0, 0), thing(1, 1, 2), fund(0, 10, 100)] + [buy(0, 0, 1000000)] * 10


class Buy(unittest.TestCase):
    def test_answers_what_it_cost(self):
        self.assertEqual(ask(SMALL + [buy(0, 0, 3), buy(0, 3, 2), buy(2, 3, 1)])[4:], [[15], [14], [7]])

    def test_cash_falls_and_pieces_grow(self):
        told = ask(SMALL + [buy(0, 0, 15), buy(0, 0, 6), buy(0, 0, 5), buy(0, 0, 1), sell(0, 0, 21), sell(0, 0, 20)])
        self.assertEqual(told[4:], [[75], [-7], [25], [-7], [-5], [100]])

    def test_what_it_is_worth_stays(self):
        self.assertEqual(last(SMALL + [buy(0, 0, 20), issue(0, 10)]), [1, 10])

    def test_at_price_0(self):
        calls = [thing(0, 0, 0), fund(0, 1, 0), buy(0, 0, 4), sell(0, 0, 5), price(0, 3), sell(0, 0, 4)]
        self.assertEqual(ask(calls)[2:], [[0], [-5], [0], [12]])

    def test_range(self):
        ranged(self, [thing(0, 0, 1), fund(0, 1, 1000000)], buy(0, 0, 1), 3, 1, 1000000)
        self.assertEqual(last([thing(0, 0, 1), fund(0, 1, 1000000), buy(0, 0, 1000000)]), [1000000])
        self.assertEqual(last([thing(0, 0, 1), fund(0, 1, 1000000), buy(0, 0, 1)]), [1])

    def test_not_there(self):
        for i in (1, 6, -1, FAR, -FAR):
            refused_plainly(self, SMALL, buy(i, 0, 1), -2)
        for k in (1, 12, -1, FAR, -FAR):
            refused_plainly(self, SMALL, buy(0, k, 1), -2)

    def test_not_there_before_out_of_range(self):
        refused_plainly(self, SMALL, buy(1, 0, 0), -2)
        refused_plainly(self, SMALL, buy(0, 1, 1000001), -2)

    def test_out_of_range_before_no_cash(self):
        refused_plainly(self, SMALL, buy(0, 0, 1000001), -1)

    def test_not_so_much_cash(self):
        refused_plainly(self, SMALL, buy(0, 0, 21), -7)
        refused_plainly(self, SMALL, buy(2, 3, 9), -7)
        refused_plainly(self, [thing(0, 0, 1), fund(0, 1, 0)], buy(0, 0, 1), -7)

    def test_more_than_ten_million_pieces(self):
        self.assertEqual(last(TEN_MILLION), [0])
        refused_plainly(self, TEN_MILLION, buy(0, 0, 1), -3)
        refused_plainly(self, TEN_MILLION + [sell(0, 0, 1)], buy(0, 0, 2), -3)
        self.assertEqual(last(TEN_MILLION + [sell(0, 0, 1), buy(0, 0, 1)]), [0])
        self.assertEqual(last(TEN_MILLION + [buy(0, 1, 50)]), [100])

    def test_no_cash_before_too_many(self):
        refused_plainly(self, TEN_MILLION + [price(0, 101)], buy(0, 0, 1), -7)
        refused_plainly(self, TEN_MILLION + [price(0, 100)], buy(0, 0, 1), -3)

    def test_no_cash_before_not_let(self):
        refused_plainly(self, SMALL + [limits(0, one=0)], buy(0, 0, 21), -7)
        refused_plainly(self, SMALL + [limits(0, one=0)], buy(0, 0, 20), -8)

    def test_too_many_before_not_let(self):
        calls = TEN_MILLION + [price(0, 1), limits(0, one=0)]
        refused_plainly(self, calls, buy(0, 0, 1), -3)
        refused_plainly(self, calls + [sell(0, 0, 1)], buy(0, 0, 1), -8)

    def test_out_of_range_before_not_let(self):
        refused_plainly(self, SMALL + [limits(0, one=0)], buy(0, 0, 0), -1)


class Sell(unittest.TestCase):
    def test_answers_what_it_brought_at_the_price_now(self):
        told = ask(SMALL + [buy(0, 0, 10), sell(0, 0, 2), price(0, 8), sell(0, 0, 8), sell(0, 0, 1)])
        self.assertEqual(told[4:], [[50], [10], [5], [64], [-5]])

    def test_cash_grows(self):
        # 100 - 100 + 10 = 10 coins: two pieces again, and no third one.
        told = ask(SMALL + [buy(0, 0, 20), sell(0, 0, 2), buy(0, 0, 3), buy(0, 0, 2), buy(0, 0, 1)])
        self.assertEqual(told[4:], [[100], [10], [-7], [10], [-7]])

    def test_at_price_0(self):
        self.assertEqual(last(SMALL + [buy(0, 0, 2), price(0, 0), sell(0, 0, 2)]), [0])

    def test_range(self):
        before = [thing(0, 0, 1), fund(0, 1, 2000000), buy(0, 0, 1000000), buy(0, 0, 1000000)]
        ranged(self, before, sell(0, 0, 1), 3, 1, 1000000)
        self.assertEqual(last(before + [sell(0, 0, 1000000)]), [1000000])
        self.assertEqual(last(before + [sell(0, 0, 1)]), [1])

    def test_not_there(self):
        before = SMALL + [buy(0, 0, 2)]
        for i in (1, 6, -1, FAR, -FAR):
            refused_plainly(self, before, sell(i, 0, 1), -2)
        for k in (1, 12, -1, FAR, -FAR):
            refused_plainly(self, before, sell(0, k, 1), -2)

    def test_not_there_before_out_of_range(self):
        refused_plainly(self, SMALL, sell(1, 0, 0), -2)
        refused_plainly(self, SMALL, sell(0, 1, 1000001), -2)

    def test_out_of_range_before_fewer(self):
        refused_plainly(self, SMALL + [buy(0, 0, 2)], sell(0, 0, 1000001), -1)

    def test_fewer_pieces(self):
        before = SMALL + [buy(0, 0, 2), buy(2, 3, 5)]
        refused_plainly(self, before, sell(0, 0, 3), -5)
        refused_plainly(self, before, sell(0, 3, 1), -5)
        refused_plainly(self, before, sell(2, 0, 1), -5)
        self.assertEqual(last(before + [sell(0, 0, 2)]), [10])

    def test_needs_no_leave(self):
        before = SMALL + [buy(0, 0, 2), buy(0, 3, 2), limits(0, 0, 0, 0, 0)]
        self.assertEqual(last(before + [sell(0, 0, 1)]), [5])
        self.assertEqual(last(before + [sell(0, 3, 2)]), [14])

    def test_not_those_of_funds_beneath(self):
        before = SMALL + [buy(2, 3, 5), subscribe(0, 2, 30)]
        refused_plainly(self, before, sell(0, 3, 1), -5)


if __name__ == "__main__":
    unittest.main()
