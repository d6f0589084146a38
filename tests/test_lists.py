"""The interface: what is handed in and what is given back."""

import unittest

from fundrings.house import answers
from tests.helper import (ask, breaches, buy, cancel, clear, exposure, fund, fundat, group, holding, issue, issuer,
                          limits, looked, price, probes, redeem, rounds, sell, subscribe, sums, thing, through, tick,
                          value)

EXAMPLE = [4, 0, 100, 1000, 4, 1, 100, 500, 8, 0, 1, 500, 8, 1, 0, 500]


class Form(unittest.TestCase):
    def test_how_many_numbers_then_these(self):
        self.assertEqual(answers(EXAMPLE), [1, 0, 1, 0, 2, 100, 500, 2, 50, 500])

    def test_one_call_of_each(self):
        calls = [0, 1, 0, 0, 5, 2, 0, 6, 3, 0, 1, 4, 0, 10, 100, 4, 1, 10, 100, 5, 0, 1, 2, 3, 1000000, 5, 0]
        calls += [1000000, 1000000, 1000000, 1000000, 6, 0, 0, 2, 7, 0, 0, 1, 8, 0, 1, 20, 9, 0, 1, 1, 10, 1, 25]
        self.assertEqual(answers(calls), [1, 0, 1, 0, 1, 5, 1, 0, 1, 0, 1, 0, 1, 0, 1, 0, 1, 12, 1, 6, 2, 2, 20, 1, 10,
                                          2, 2, 20])

    def test_the_calls_from_cancel_on(self):
        calls = EXAMPLE + [11, 0, 10, 12, 3, 13, 0, 14, 2, 15, 0, 0, 16, 0, 7, 17, 0, 3, 18, 0, 19, 0, 20, 0, 21]
        told = [1, 100, 1, 3, 5, 1400, 10000000, 900, 140, 90, 7, 0, 1150, 821, 0, 0, 0, 0, 1, 1217391, 2, 0, 0, 2, 0, 0]
        told += [1, 0, 18] + [0] * 13 + [100, 0, 0, 0, 0] + [6, 90, 900] + [1000000] * 4 + [3, 3, 1400, 1400]
        self.assertEqual(answers(calls), answers(EXAMPLE) + told)

    def test_breaches_tells_how_many(self):
        calls = [1, 0, 2, 1, 4, 0, 10, 100, 6, 0, 0, 9, 5, 0, 0, 0, 0, 0, 18, 0]
        self.assertEqual(answers(calls)[8:], [10, 3, 1, 2, 0, 2, 0, 0, 3, 0, 0])

    def test_a_refusal_is_its_number_alone(self):
        for call in (cancel(0, 1), value(0), through(0, 0), exposure(0, 0), group(0, 0), breaches(0), holding(0),
                     fundat(0)):
            self.assertEqual(answers(call + call), [1, -2, 1, -2], call)
        self.assertEqual(answers(tick(0) + rounds(-1)), [1, -1, 1, -1])
        self.assertEqual(answers([8, 0, 1, 500]), [1, -2])
        self.assertEqual(answers([4, 0, 100, 1000, 10, 0, 1, 8, 0, 0, 5]), [1, 0, 1, -6, 1, -1])

    def test_whole_numbers_in_lists(self):
        calls = [1, 0, 0, 2, 6, 0, 0, 5, 2, 0, 1, 9, 0, 1, 1000, 10, 0, 77, 11, 0, 1, 12, 1, 5, 0, 0, 0, 0, 0]
        told = answers(EXAMPLE + calls + [number for call in looked() for number in call])
        self.assertIs(type(told), list)
        self.assertEqual({type(number) for number in told}, {int})

    def test_any_call_may_come_first(self):
        firsts = [(clear(), 0), (thing(0, 0, 0), 0), (price(0, 0), -2), (issuer(0, 3), 0), (fund(0, 1, 0), 0),
                  (limits(0), -2), (buy(0, 0, 1), -2), (sell(0, 0, 1), -2), (subscribe(0, 1, 1), -2),
                  (redeem(0, 1, 1), -2), (issue(0, 1), -2), (cancel(0, 1), -2), (value(0), -2), (through(0, 1), -2),
                  (exposure(0, 1), -2), (group(0, 1), -2), (breaches(0), -2), (holding(0), -2), (fundat(0), -2)]
        for call, told in firsts:
            self.assertEqual(answers(call), [1, told], call)
            self.assertEqual(ask([call, fund(5, 10, 70), issue(5, 21)]), [[told], [0], [3, 21]], call)
        for call, told in ((tick(9), [1, 9]), (rounds(9), [7] + [0] * 7), (sums(), [3, 0, 0, 0])):
            self.assertEqual(answers(call), told, call)

    def test_clear_in_the_middle(self):
        calls = [1, 0, 0, 5, 3, 0, 2] + EXAMPLE
        self.assertEqual(answers(calls + [0] + calls), answers(calls) + [1, 0] + answers(calls))
        busy = [thing(0, 0, 3), fund(0, 10, 100), fund(1, 10, 100), buy(0, 0, 2), subscribe(0, 1, 30), issuer(0, 2)]
        self.assertEqual(ask(busy + [clear()] + probes())[7:], ask(probes()))

    def test_the_furthest_numbers(self):
        for far in (10 ** 18, -10 ** 18):
            calls = [thing(far, far, far), price(far, far), issuer(far, far), fund(far, far, far), [5] + [far] * 5]
            calls += [buy(far, far, far), sell(far, far, far), subscribe(far, far, far), redeem(far, far, far)]
            self.assertEqual(ask(calls + [issue(far, far)]),
                             [[-1], [-2], [-1], [-1], [-2], [-2], [-2], [-2], [-2], [-2]])
            calls = [cancel(far, far), tick(far), value(far), rounds(far), through(far, far), exposure(far, far)]
            self.assertEqual(ask(calls + [group(far, far), breaches(far), holding(far), fundat(far)]),
                             [[-2], [-1], [-2], [-1], [-2], [-2], [-2], [-2], [-2], [-2]])


class LongLists(unittest.TestCase):
    def test_400_calls_of_one_number(self):
        self.assertEqual(answers([0] * 400), [1, 0] * 400)

    def test_400_calls_in_a_ring(self):
        # Each round goes once round the ring and comes back to where it was.
        turn = [subscribe(0, 1, 500), subscribe(1, 0, 500), redeem(1, 0, 50), redeem(0, 1, 100)]
        calls = [fund(0, 100, 1000), fund(1, 100, 500)] + turn * 99 + [issue(0, 10), issue(1, 5)]
        self.assertEqual(len(calls), 400)
        self.assertEqual(ask(calls), [[0], [0]] + [[100, 500], [50, 500], [500], [500]] * 99 + [[1, 10], [1, 5]])

    def test_400_calls_that_tell(self):
        calls = [fund(0, 100, 1000), fund(1, 100, 500), subscribe(0, 1, 500), subscribe(1, 0, 500)]
        calls += [through(0, 0), rounds(60), tick(1000), value(1)] * 99
        told = ask(calls)[4:]
        self.assertEqual(told[::4], [[1200000]] * 99)
        self.assertEqual(told[1::4], [[0, 1499, 999, 0, 0, 0, 0]] * 99)
        self.assertEqual(told[2::4], [[1000 * n] for n in range(1, 100)])
        self.assertEqual(told[3::4], [[1000, 5000000, 500, 200, 100]] * 99)

    def test_400_calls_that_are_refused(self):
        calls = [fund(0, 10, 100)] + [issue(0, 9)] * 398 + [issue(0, 10)]
        self.assertEqual(ask(calls), [[0]] + [[-6]] * 398 + [[1, 10]])


class NothingKept(unittest.TestCase):
    def test_the_list_stays_as_it_was(self):
        calls = [number for call in self.busy() for number in call]
        before = list(calls)
        answers(calls)
        self.assertEqual(calls, before)

    def test_the_list_is_not_changed_for_a_while_either(self):
        class Watched(list):
            def forbidden(self, *given, **named):
                raise AssertionError("the list handed in is changed")

            __setitem__ = __delitem__ = __iadd__ = __imul__ = forbidden
            append = extend = insert = pop = remove = clear = sort = reverse = forbidden

        calls = [number for call in self.busy() for number in call]
        self.assertEqual(answers(Watched(calls)), answers(calls))

    def test_a_second_time_answers_as_the_first(self):
        calls = [number for call in self.busy() for number in call]
        first = answers(calls)
        self.assertEqual(answers(calls), first)
        answers([3, 0, 3, 3, 1, 3] + EXAMPLE)
        self.assertEqual(answers(calls), first)

    def test_what_is_given_back_is_new_each_time(self):
        first = answers(EXAMPLE)
        first.append(5)
        self.assertEqual(answers(EXAMPLE), first[:-1])

    def busy(self):
        calls = [thing(0, 0, 3), issuer(0, 2), issuer(0, 1), fund(0, 10, 100), fund(1, 10, 100), buy(0, 0, 2)]
        calls += [subscribe(0, 1, 30), subscribe(1, 0, 25), price(0, 7), limits(0, one=1), buy(0, 0, 1), sell(0, 0, 1)]
        calls += [redeem(0, 1, 1), issue(1, 29), price(0, 0), redeem(1, 0, 3), issue(0, 5)]
        return calls + [tick(4), price(0, 9), cancel(0, 2), cancel(1, 100), tick(1001), limits(1, one=0)] + looked()


if __name__ == "__main__":
    unittest.main()
