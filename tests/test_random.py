"""Lists of calls drawn from fixed seeds, answered by the program and by the second reckoning."""

import collections
import random
import unittest

from tests import helper

FAR = 10 ** 18


def beginning(draw, most_cash):
    calls = []
    for k in draw.sample(range(12), draw.randint(1, 5)):
        calls.append(helper.thing(k, draw.randint(0, 7), draw.choice([0, 1, 1, 2, 3, 7, 10])))
    for i in draw.sample(range(6), draw.randint(2, 6)):
        calls.append(helper.fund(i, draw.choice([1, 30, 70, 100, 333]), draw.randint(0, most_cash)))
    for i in range(6):
        if draw.random() < 0.4:
            calls.append(limited(draw, i))
    draw.shuffle(calls)
    return calls


def limited(draw, i):
    return [5, i] + [draw.choice([0, 50000, 100000, 200000, 333333, 500000, 750000, 1000000]) for place in range(4)]


def small(draw):
    return draw.choice([1, 1, 2, 3, 5, 8, 13, 50, 200, draw.randint(1, 1000)])


def wild(draw):
    return draw.choice([-FAR, -1, 0, 1, 5, 6, 7, 8, 11, 12, 10 ** 6, 10 ** 6 + 1, 10 ** 7, 10 ** 9, 10 ** 9 + 1, FAR])


def drawn(draw, things, funds):
    """One call, most often about what is there."""
    number = draw.choice([2, 2, 3, 5, 6, 6, 6, 6, 7, 7, 8, 8, 8, 8, 8, 8, 9, 9, 9, 10, 10])
    i = draw.choice(funds)
    j = draw.choice([j for j in funds if j != i] or funds)
    k = draw.choice(things)
    call = {
        2: [2, k, draw.choice([0, 1, 2, 3, 5, 8, 11, 20])],
        3: [3, draw.randint(0, 7), draw.randint(0, 3)],
        5: limited(draw, i),
        6: [6, i, k, small(draw)],
        7: [7, i, k, draw.choice([1, 2, 5, small(draw)])],
        8: [8, i, j, small(draw) * draw.choice([2, 5, 20])],
        9: [9, i, j, draw.choice([1, 2, 5, small(draw)])],
        10: [10, j, small(draw) * draw.choice([1, 20])],
    }[number]
    if draw.random() < 0.06:
        call[draw.randint(1, len(call) - 1)] = wild(draw)
    if draw.random() < 0.01:
        call = draw.choice([[0], [1, wild(draw), 3, 4], [4, wild(draw), 5, 60], [4, draw.randint(0, 5), 2, wild(draw)]])
    return call


def drawn_list(seed, length, most_cash):
    draw = random.Random(seed)
    calls = beginning(draw, most_cash)
    things = [call[1] for call in calls if call[0] == 1]
    funds = [call[1] for call in calls if call[0] == 4]
    while len(calls) < length:
        call = drawn(draw, things, funds)
        calls.append(call)
        if call == [0]:
            calls.extend(beginning(draw, most_cash)[:length - len(calls)])
            things = things + [call[1] for call in calls if call[0] == 1]
            funds = funds + [call[1] for call in calls if call[0] == 4 and call[1] in range(6)]
    return calls


class RandomLists(unittest.TestCase):
    def compare(self, seeds, length, most_cash):
        seen = collections.Counter()
        for seed in seeds:
            calls = drawn_list(seed, length, most_cash)
            told = helper.ask(calls)
            with self.subTest(seed=seed):
                self.assertEqual(told, helper.model_answers(calls))
            seen.update((call[0], min(answer[0], 0)) for call, answer in zip(calls, told))
        return seen

    def test_short_lists(self):
        seen = self.compare(range(150), 60, 2000)
        wanted = [(6, -1), (6, -2), (6, -7), (6, -8), (6, 0), (7, -5), (7, 0), (8, -1), (8, -2), (8, -6), (8, -7)]
        wanted += [(8, -8), (8, 0), (9, -5), (9, -7), (9, 0), (10, -6), (10, 0)]
        for place in wanted:
            self.assertGreater(seen[place], 0, place)

    def test_lists_of_400_calls(self):
        self.compare(range(1000, 1004), 400, 100000)


if __name__ == "__main__":
    unittest.main()
