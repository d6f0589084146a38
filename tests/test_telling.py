"""The calls tick, value, rounds, through, exposure, group, holding, fundat and sums."""

import unittest

from tests.helper import (ask, buy, cancel, clear, exposure, fund, fundat, group, holding, issue, issuer, last,
                          limits, looked, price, ranged, redeem, refused_plainly, rounds, sell, subscribe, sums, thing,
                          through, tick, value)

FAR = 10 ** 18
MISSING = (2, 6, -1, FAR, -FAR)
TWO = [fund(0, 100, 1000), fund(1, 100, 500)]
# The document's example: W of 0 is 10 and W of 1 is 5, in a ring.
RING = TWO + [subscribe(0, 1, 500), subscribe(1, 0, 500)]
# Each of three has 300 coins and 100 of the next one's 200 units at 3 coins.
THREE = [fund(0, 100, 300), fund(1, 100, 300), fund(2, 100, 300),
         subscribe(0, 1, 300), subscribe(1, 2, 300), subscribe(2, 0, 300)]
# Fund 1 is in a ring with 0 and in one with 2: each of these has 100 of its 300 units, and it 100 of their 200.
SEVERAL = [fund(0, 100, 900), fund(1, 100, 900), fund(2, 100, 900),
           subscribe(0, 1, 900), subscribe(1, 0, 900), subscribe(2, 1, 900), subscribe(1, 2, 900)]
# Fund 1's unit is worth 3.5 behind rounding; fund 0 has 96 coins and one of its four units.
THIRDS = [fund(0, 10, 100), fund(1, 3, 10), subscribe(0, 1, 4)]
# Fund 1 has pieces that are worth nothing any more and fund 0 has 10 of its 20 units.
WORTHLESS = [thing(0, 3, 10), fund(0, 10, 10), fund(1, 10, 10), subscribe(0, 1, 10), buy(1, 0, 2), price(0, 0)]
# Fund 0 has half of fund 1, which has two coins and a piece at a coin of issuers 0 and 1 each.
HALVES = [thing(0, 0, 1), thing(1, 1, 1), fund(0, 1, 2), fund(1, 1, 2), subscribe(0, 1, 2), buy(1, 0, 1), buy(1, 1, 1)]


def told_of(before, calls):
    return ask(before + calls)[len(before):]


class Tick(unittest.TestCase):
    def test_answers_the_day(self):
        self.assertEqual(ask([tick(1), tick(5), tick(1000), tick(1)]), [[1], [6], [1006], [1007]])
        self.assertEqual(told_of([tick(3), tick(4)], [sums(), tick(2), sums()]), [[7, 0, 0], [9], [9, 0, 0]])

    def test_clear_sets_it_back(self):
        self.assertEqual(ask([tick(70), clear(), sums(), tick(3), clear(), clear(), tick(1)]),
                         [[70], [0], [0, 0, 0], [3], [0], [0], [1]])

    def test_range(self):
        ranged(self, RING, tick(1), 1, 1, 1000)
        self.assertEqual(ask([tick(1), tick(1000)]), [[1], [1001]])

    def test_as_far_as_a_list_goes(self):
        self.assertEqual(ask([tick(1000)] * 400), [[1000 * n] for n in range(1, 401)])

    def test_changes_nothing_else(self):
        before = RING + [thing(0, 0, 1), buy(0, 0, 10), limits(0, 1, 2, 3, 4)]
        self.assertEqual(told_of(before + [tick(9)], looked()[1:]), told_of(before, looked()[1:]))


class Value(unittest.TestCase):
    def test_coins_alone(self):
        self.assertEqual(last([fund(3, 10, 70), value(3)]), [70, 7000000, 70, 10, 10])
        self.assertEqual(last([fund(5, 1000000, 1000000000), value(5)]), [10 ** 9, 10 ** 9, 10 ** 9, 10 ** 6, 10 ** 6])

    def test_pieces_at_their_prices(self):
        before = [thing(0, 0, 5), thing(11, 7, 2), fund(3, 10, 70), buy(3, 0, 4), buy(3, 11, 10), price(0, 15)]
        self.assertEqual(last(before + [value(3)]), [110, 11000000, 110, 10, 10])

    def test_the_documents_example(self):
        self.assertEqual(told_of(RING[:3], [value(0), value(1)]),
                         [[1000, 10000000, 500, 100, 100], [1000, 5000000, 1000, 200, 100]])
        self.assertEqual(told_of(RING, [value(0), value(1)]),
                         [[1500, 10000000, 1000, 150, 100], [1000, 5000000, 500, 200, 100]])

    def test_a_ring_of_two(self):
        # Fund 1 loses 250, of which 0.6 are fund 0's and 1.2 its own: 1350 of 150 units, 700 of 200.
        lost = RING + [thing(0, 0, 1), buy(1, 0, 250), price(0, 0)]
        self.assertEqual(told_of(lost, [value(0), value(1)]),
                         [[1350, 9000000, 1000, 150, 100], [700, 3500000, 250, 200, 100]])

    def test_a_ring_of_three(self):
        # Fund 0 gains 1: eight sevenths of it are its own, four fund 2's and two fund 1's.
        gained = THREE + [thing(0, 0, 1), buy(0, 0, 1), price(0, 2)]
        self.assertEqual(told_of(gained, [value(0), value(1), value(2)]),
                         [[601, 3005714, 301, 200, 100], [600, 3001428, 300, 200, 100], [600, 3002857, 300, 200, 100]])

    def test_several_rings(self):
        gained = SEVERAL + [thing(0, 0, 1), buy(0, 0, 300), price(0, 2)]
        self.assertEqual(told_of(gained, [value(0), value(1), value(2)]),
                         [[2175, 10875000, 1200, 200, 100], [2925, 9750000, 900, 300, 100],
                          [1875, 9375000, 900, 200, 100]])

    def test_rounded_down(self):
        self.assertEqual(last([fund(0, 3, 10), value(0)]), [10, 3333333, 10, 3, 3])
        self.assertEqual(last([fund(0, 3, 11), value(0)]), [11, 3666666, 11, 3, 3])
        self.assertEqual(told_of(THIRDS, [value(0), value(1)]), [[99, 9950000, 96, 10, 10], [14, 3500000, 14, 4, 3]])
        self.assertEqual(last([fund(0, 1000000, 1), value(0)]), [1, 1, 1, 1000000, 1000000])
        self.assertEqual(last([fund(0, 1000000, 0), value(0)]), [0, 0, 0, 1000000, 1000000])

    def test_w_below_a_millionth(self):
        before = [fund(0, 1000000, 1), issue(0, 1)]
        self.assertEqual(told_of(before, [value(0)]), [[2, 1, 2, 2000000, 2000000]])
        lost = before + [thing(0, 0, 1), buy(0, 0, 1), price(0, 0)]
        self.assertEqual(told_of(lost, [value(0)]), [[1, 0, 1, 2000000, 2000000]])

    def test_worth_nothing(self):
        self.assertEqual(told_of(WORTHLESS, [value(0), value(1)]), [[0, 0, 0, 10, 10], [0, 0, 0, 20, 10]])
        self.assertEqual(last([fund(4, 7, 0), value(4)]), [0, 0, 0, 7, 7])

    def test_not_there(self):
        for missing in MISSING:
            refused_plainly(self, RING, value(missing), -2)
        self.assertEqual(last([value(0)]), [-2])


class Rounds(unittest.TestCase):
    def test_no_round(self):
        self.assertEqual(ask([rounds(0)] + RING + [rounds(0)])[::5], [[0] * 7, [0] * 7])

    def test_nothing_there(self):
        self.assertEqual(ask([rounds(1), rounds(60)]), [[0] * 7] * 2)

    def test_one_round_is_what_each_has_itself(self):
        before = [thing(4, 0, 7), fund(1, 10, 100), fund(3, 5, 60), fund(5, 1, 9), buy(3, 4, 2), subscribe(3, 1, 20)]
        self.assertEqual(last(before + [price(4, 8), rounds(1)]), [0, 0, 120, 0, 42, 0, 9])
        # Fund 3 has two of fund 1's twelve units.
        self.assertEqual(last(before + [price(4, 8), rounds(2)]), [0, 0, 120, 0, 62, 0, 9])

    def test_a_ring_of_two(self):
        # Half of fund 1 is fund 0's, a third of fund 0 is fund 1's: always of the round before.
        told = told_of(RING, [rounds(n) for n in range(6)])
        self.assertEqual([row[1:3] for row in told],
                         [[0, 0], [1000, 500], [1250, 833], [1416, 916], [1458, 972], [1486, 986]])
        self.assertEqual([row[:1] + row[3:] for row in told], [[0] * 5] * 6)

    def test_rounded_down_each_time_it_stays_below(self):
        # Fund 0 at 1499 gives fund 1 499, and fund 1 at 999 gives fund 0 499: it comes no further.
        self.assertEqual(told_of(RING, [rounds(59), rounds(60)]), [[0, 1499, 999, 0, 0, 0, 0]] * 2)

    def test_a_ring_of_three(self):
        self.assertEqual([row[1:4] for row in told_of(THREE, [rounds(n) for n in (1, 2, 3, 4)])],
                         [[300] * 3, [450] * 3, [525] * 3, [562] * 3])
        self.assertEqual(last(THREE + [rounds(60)]), [0, 599, 599, 599, 0, 0, 0])

    def test_several_rings(self):
        # Fund 1 has half of 0 and half of 2, each of which has a third of it.
        self.assertEqual([row[1:4] for row in told_of(SEVERAL, [rounds(n) for n in (1, 2, 3)])],
                         [[900] * 3, [1200, 1800, 1200], [1500, 2100, 1500]])

    def test_each_holding_is_rounded_by_itself(self):
        # Half a coin of each of two funds is nothing, though both together are a coin.
        before = [thing(0, 0, 1), fund(0, 1, 2), fund(1, 1, 1), fund(2, 1, 1), subscribe(0, 1, 1), subscribe(0, 2, 1),
                  buy(1, 0, 1), buy(2, 0, 1), price(0, 0)]
        self.assertEqual(told_of(before, [rounds(1), rounds(2), value(0)]),
                         [[0, 0, 1, 1, 0, 0, 0], [0, 0, 1, 1, 0, 0, 0], [1, 1000000, 0, 1, 1]])

    def test_units_without_any_outside(self):
        self.assertEqual(told_of(RING + [cancel(0, 100)], [rounds(1), rounds(2), rounds(3)]),
                         [[0, 0, 500, 0, 0, 0, 0], [0, 250, 500, 0, 0, 0, 0], [0, 250, 750, 0, 0, 0, 0]])

    def test_range(self):
        ranged(self, RING, rounds(1), 1, 0, 60)
        self.assertEqual([last([fund(2, 1, 5), rounds(n)]) for n in (0, 60)], [[0] * 7, [0, 0, 0, 5, 0, 0, 0]])


class Through(unittest.TestCase):
    def parts(self, before, funds):
        return [[last(before + [through(i, j)])[0] for j in funds] for i in funds]

    def test_funds_for_themselves(self):
        self.assertEqual(self.parts(TWO, (0, 1)), [[1000000, 0], [0, 1000000]])

    def test_no_ring(self):
        # Fund 0 has half of fund 1, which has a third of fund 2.
        before = [fund(0, 10, 100), fund(1, 10, 100), fund(2, 10, 100), subscribe(1, 2, 50), subscribe(0, 1, 100)]
        self.assertEqual(self.parts(before, (0, 1, 2)),
                         [[1000000, 500000, 166666], [0, 1000000, 333333], [0, 0, 1000000]])

    def test_the_documents_example(self):
        self.assertEqual(self.parts(RING, (0, 1)), [[1200000, 600000], [400000, 1200000]])

    def test_a_ring_of_three(self):
        self.assertEqual(self.parts(THREE, (0, 1, 2)), [[1142857, 571428, 285714], [285714, 1142857, 571428],
                                                        [571428, 285714, 1142857]])

    def test_several_rings(self):
        self.assertEqual(self.parts(SEVERAL, (0, 1, 2)), [[1250000, 500000, 250000], [750000, 1500000, 750000],
                                                          [250000, 500000, 1250000]])

    def test_whatever_the_cash_and_prices_are(self):
        before = RING + [thing(0, 0, 1), buy(0, 0, 700), buy(1, 0, 500)]
        for coins in (1, 0, 1000000):
            self.assertEqual(self.parts(before + [price(0, coins)], (0, 1)), [[1200000, 600000], [400000, 1200000]])
        self.assertEqual(self.parts(WORTHLESS, (0, 1)), [[1000000, 500000], [0, 1000000]])

    def test_far_above_1(self):
        # Of each fund's thousand units one is outside and the other fund has the others.
        before = [fund(0, 1000, 1000), fund(1, 1000, 1000), subscribe(0, 1, 999), subscribe(1, 0, 999), cancel(0, 999),
                  cancel(1, 999)]
        self.assertEqual(ask(before)[2:], [[999, 999], [999, 999], [999], [999]])
        self.assertEqual(self.parts(before, (0, 1)), [[500250125, 499749874], [499749874, 500250125]])

    def test_not_there(self):
        for missing in MISSING:
            refused_plainly(self, RING, through(missing, 0), -2)
            refused_plainly(self, RING, through(0, missing), -2)
            refused_plainly(self, RING, through(missing, missing), -2)


class Exposure(unittest.TestCase):
    def test_its_own_pieces(self):
        before = [thing(0, 2, 3), thing(1, 2, 5), thing(2, 6, 1), fund(0, 10, 100), buy(0, 0, 4), buy(0, 1, 2),
                  buy(0, 2, 7)]
        self.assertEqual(told_of(before, [exposure(0, number) for number in range(8)]),
                         [[0, 0], [0, 0], [22, 220000], [0, 0], [0, 0], [0, 0], [7, 70000], [0, 0]])
        self.assertEqual(told_of(before + [price(1, 30)], [exposure(0, 2), exposure(0, 6)]), [[72, 480000], [7, 46666]])

    def test_all_and_nothing_of_the_worth(self):
        before = [thing(0, 0, 1), fund(0, 10, 100), buy(0, 0, 100)]
        self.assertEqual(told_of(before, [exposure(0, 0), exposure(0, 7)]), [[100, 1000000], [0, 0]])

    def test_through_a_fund(self):
        before = [thing(0, 5, 1), fund(0, 100, 1000), fund(1, 100, 1000), buy(1, 0, 500), subscribe(0, 1, 250)]
        self.assertEqual(told_of(before, [exposure(0, 5), exposure(1, 5)]), [[100, 100000], [500, 400000]])
        self.assertEqual(last(before + [buy(0, 0, 50), exposure(0, 5)]), [150, 150000])

    def test_a_ring_of_two(self):
        before = RING + [thing(0, 1, 1), buy(0, 0, 250), buy(1, 0, 100)]
        # 1.2 x 250 + 0.6 x 100 of 1500; 0.4 x 250 + 1.2 x 100 of 1000.
        self.assertEqual(told_of(before, [exposure(0, 1), exposure(1, 1)]), [[360, 240000], [220, 220000]])

    def test_a_ring_of_three(self):
        # 8/7, 2/7 and 4/7 of 100 coins of 600.
        before = THREE + [thing(0, 1, 1), buy(0, 0, 100)]
        self.assertEqual(told_of(before, [exposure(i, 1) for i in range(3)]),
                         [[114, 190476], [28, 47619], [57, 95238]])

    def test_several_rings(self):
        # 1.25, 0.75 and 0.25 of 101 coins of 1800, 2700 and 1800.
        before = SEVERAL + [thing(0, 1, 1), buy(0, 0, 101)]
        self.assertEqual(told_of(before, [value(0)] + [exposure(i, 1) for i in range(3)]),
                         [[1800, 9000000, 900, 200, 100], [126, 70138], [75, 28055], [25, 14027]])

    def test_rounded_down_only_at_the_end(self):
        self.assertEqual(told_of(HALVES, [exposure(0, 0), exposure(0, 1), exposure(1, 0)]),
                         [[0, 250000], [0, 250000], [1, 250000]])
        self.assertEqual(last([thing(0, 0, 1), fund(0, 1, 3), buy(0, 0, 2), exposure(0, 0)]), [2, 666666])
        # Half a coin of a worth of 99.5.
        before = THIRDS + [thing(0, 4, 1), buy(1, 0, 2)]
        self.assertEqual(last(before + [exposure(0, 4)]), [0, 5025])

    def test_a_worth_of_0(self):
        self.assertEqual(told_of(WORTHLESS, [exposure(0, 3), exposure(1, 3), exposure(1, 0)]), [[0, 0]] * 3)
        self.assertEqual(last([fund(0, 1, 0), exposure(0, 0)]), [0, 0])

    def test_ranges(self):
        ranged(self, RING + [thing(0, 7, 1), buy(0, 0, 10)], exposure(0, 3), 2, 0, 7)

    def test_not_there(self):
        for missing in MISSING:
            refused_plainly(self, RING, exposure(missing, 0), -2)
            refused_plainly(self, RING, exposure(missing, 8), -2)


class Group(unittest.TestCase):
    def test_its_issuers_together(self):
        before = [thing(k, k, k + 1) for k in range(8)] + [fund(0, 10, 100)] + [buy(0, k, 1) for k in range(8)]
        self.assertEqual(told_of(before, [group(0, which) for which in range(4)]), [[36, 360000]] + [[0, 0]] * 3)
        before += [issuer(1, 1), issuer(7, 1), issuer(3, 3)]
        self.assertEqual(told_of(before, [group(0, which) for which in range(4)]),
                         [[22, 220000], [10, 100000], [0, 0], [4, 40000]])

    def test_a_ring_of_two(self):
        before = RING + [thing(0, 1, 1), thing(1, 6, 1), buy(0, 0, 250), buy(1, 1, 100), issuer(1, 2), issuer(6, 2)]
        self.assertEqual(told_of(before, [group(0, 2), group(1, 2), group(0, 0)]),
                         [[360, 240000], [220, 220000], [0, 0]])

    def test_rings_of_three_and_several(self):
        bought = [thing(0, 1, 1), thing(1, 6, 1), buy(0, 0, 60), buy(0, 1, 40), issuer(1, 2), issuer(6, 2)]
        self.assertEqual(told_of(THREE + bought, [group(i, 2) for i in range(3)]),
                         [[114, 190476], [28, 47619], [57, 95238]])
        self.assertEqual(told_of(SEVERAL + bought + [buy(0, 0, 1)], [group(i, 2) for i in range(3)]),
                         [[126, 70138], [75, 28055], [25, 14027]])

    def test_rounded_down_behind_the_sum(self):
        # Two times half a coin is a coin; three thirds are the whole.
        self.assertEqual(told_of(HALVES, [group(0, 0), group(0, 1)]), [[1, 500000], [0, 0]])
        before = [thing(k, k, 1) for k in range(3)] + [fund(0, 1, 3)] + [buy(0, k, 1) for k in range(3)]
        self.assertEqual(told_of(before, [exposure(0, 0), group(0, 0)]), [[1, 333333], [3, 1000000]])

    def test_a_worth_of_0(self):
        self.assertEqual(told_of(WORTHLESS, [group(0, 0), group(1, 0), group(1, 3)]), [[0, 0]] * 3)

    def test_ranges(self):
        ranged(self, RING + [thing(0, 7, 1), buy(0, 0, 10)], group(0, 0), 2, 0, 3)

    def test_not_there(self):
        for missing in MISSING:
            refused_plainly(self, RING, group(missing, 0), -2)
            refused_plainly(self, RING, group(missing, 4), -2)


class Holding(unittest.TestCase):
    def test_nothing_at_first(self):
        self.assertEqual(last([fund(3, 10, 70), holding(3)]), [0] * 18)

    def test_pieces_then_units(self):
        before = [thing(k, 0, 1) for k in range(12)] + [fund(i, 100, 1000) for i in range(6)]
        before += [buy(2, k, k + 1) for k in range(12)] + [subscribe(2, j, 10 * j + 10) for j in (0, 1, 3, 4, 5)]
        self.assertEqual(told_of(before, [holding(2), holding(3)]),
                         [[1, 2, 3, 4, 5, 6, 7, 8, 9, 10, 11, 12, 1, 2, 0, 4, 5, 6], [0] * 18])
        less = before + [sell(2, 11, 5), redeem(2, 5, 2)]
        self.assertEqual(last(less + [holding(2)]), [1, 2, 3, 4, 5, 6, 7, 8, 9, 10, 11, 7, 1, 2, 0, 4, 5, 4])

    def test_not_there(self):
        for missing in MISSING:
            refused_plainly(self, RING, holding(missing), -2)


class Fundat(unittest.TestCase):
    def test_units_outside_cash_and_limits(self):
        self.assertEqual(last([fund(3, 10, 70), fundat(3)]), [10, 70, 1000000, 1000000, 1000000, 1000000])
        self.assertEqual(last([fund(3, 10, 70), limits(3, 1, 2, 3, 4), fundat(3)]), [10, 70, 1, 2, 3, 4])

    def test_what_changes_them(self):
        before = RING + [thing(0, 0, 3), buy(0, 0, 5), issue(0, 25), cancel(1, 7)]
        self.assertEqual(told_of(before, [fundat(0), fundat(1)]),
                         [[102, 1005] + [1000000] * 4, [93, 465] + [1000000] * 4])

    def test_not_there(self):
        for missing in MISSING:
            refused_plainly(self, RING, fundat(missing), -2)


class Sums(unittest.TestCase):
    def test_nothing_there_at_all(self):
        self.assertEqual(ask([sums(), tick(7), sums(), thing(0, 0, 5), sums()])[::2], [[0] * 3, [7, 0, 0], [7, 0, 0]])

    def test_what_all_have_themselves_and_what_is_outside(self):
        self.assertEqual(told_of(TWO, [sums()]), [[0, 1500, 1500]])
        self.assertEqual(told_of(RING + [tick(2)], [sums()]), [[2, 1500, 1500]])
        self.assertEqual(told_of(RING + [thing(0, 0, 2), buy(0, 0, 100), price(0, 7)], [sums()]), [[0, 2000, 2000]])

    def test_all_units_outside_of_some_given_back(self):
        self.assertEqual(told_of(RING + [cancel(0, 100)], [sums()]), [[0, 500, 500]])
        self.assertEqual(told_of(THREE + [cancel(0, 100), cancel(1, 100), cancel(2, 99)], [sums()]), [[0, 3, 3]])

    def test_fractions_are_added_before_they_are_rounded(self):
        # 99.5 and 3 times 3.5 are outside.
        self.assertEqual(told_of(THIRDS, [sums()]), [[0, 110, 110]])
        self.assertEqual(told_of(WORTHLESS, [sums()]), [[0, 0, 0]])


class NothingChanges(unittest.TestCase):
    def test_telling_changes_nothing(self):
        before = SEVERAL + [thing(0, 1, 1), buy(0, 0, 101), limits(0, 0, 0, 0, 0), tick(3), price(0, 2)]
        told = ask(before + looked() + looked())
        self.assertEqual(told[len(before):len(before) + len(looked())], told[len(before) + len(looked()):])

    def test_answers_of_their_lengths(self):
        told = told_of(RING, [value(0), rounds(2), through(0, 1), exposure(0, 1), group(0, 1), holding(0), fundat(0),
                              sums(), tick(1), cancel(0, 1)])
        self.assertEqual([len(row) for row in told], [5, 7, 1, 2, 2, 18, 6, 3, 1, 1])


if __name__ == "__main__":
    unittest.main()
