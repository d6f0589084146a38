"""Lists of calls drawn from fixed seeds, answered by the program and by the second reckoning."""

import collections
import random
import unittest

from tests import helper

FAR = 10 ** 18


def beginning(draw, most_cash, outsides):
    calls = []
    for k in draw.sample(range(12), draw.randint(1, 5)):
        calls.append(helper.thing(k, draw.randint(0, 7), draw.choice([0, 1, 1, 2, 3, 7, 10])))
    for i in draw.sample(range(6), draw.randint(2, 6)):
        calls.append(helper.fund(i, draw.choice(outsides), draw.randint(0, most_cash)))
    for i in range(6):
        if draw.random() < 0.4:
            calls.append(limited(draw, i))
    draw.shuffle(calls)
    return calls


def limited(draw, i):
    return [5, i] + [draw.choice([0, 50000, 100000, 200000, 333333, 500000, 750000, 1000000]) for place in range(4)]


def small(draw):
    return draw.choice([1, 1, 2, 3, 5, 8, 13, 50, 200, draw.randint(1, 1000)])


def wild(draw):
    return draw.choice([-FAR, -1, 0, 1, 5, 6, 7, 8, 11, 12, 10 ** 6, 10 ** 6 + 1, 10 ** 7, 10 ** 9, 10 ** 9 + 1, FAR])


def near(draw, number):
    """Mostly about as many as there are, so that all, all but one and one too many come often."""
    return max(1, draw.choice([number, number, number - 1, number + 1, 1, small(draw)]))


def drawn(draw, things, funds, model):
    """One call, most often about what is there."""
    number = draw.choice([2, 2, 3, 5, 6, 6, 6, 6, 7, 7, 8, 8, 8, 8, 8, 8, 9, 9, 9, 10, 10, 11, 11, 11, 11, 12]
                         + list(range(13, 22)))
    i = draw.choice(funds)
    j = draw.choice([j for j in funds if j != i] or funds)
    k = draw.choice(things)
    held = [(a, b, units) for a in model.funds for b, units in model.funds[a].held.items() if units]
    giver, given, units = draw.choice(held or [(i, j, 1)])
    outside = model.funds[i].outside if i in model.funds else 1
    call = {
        2: [2, k, draw.choice([0, 1, 2, 3, 5, 8, 11, 20])],
        3: [3, draw.randint(0, 7), draw.randint(0, 3)],
        5: limited(draw, i),
        6: [6, i, k, small(draw)],
        7: [7, i, k, draw.choice([1, 2, 5, small(draw)])],
        8: [8, i, j, small(draw) * draw.choice([2, 5, 20])],
        9: draw.choice([[9, giver, given, near(draw, units)], [9, i, j, small(draw)]]),
        10: [10, j, small(draw) * draw.choice([1, 20])],
        11: [11, i, near(draw, outside)],
        12: [12, small(draw)],
        13: [13, i],
        14: [14, draw.choice([0, 1, 2, 7, 60])],
        15: [15, i, draw.choice(funds)],
        16: [16, i, draw.randint(0, 7)],
        17: [17, i, draw.randint(0, 3)],
        18: [18, i],
        19: [19, i],
        20: [20, i],
        21: [21],
    }[number]
    if draw.random() < 0.06 and len(call) > 1:
        call[draw.randint(1, len(call) - 1)] = wild(draw)
    if draw.random() < 0.01:
        call = draw.choice([[0], [1, wild(draw), 3, 4], [4, wild(draw), 5, 60], [4, draw.randint(0, 5), 2, wild(draw)]])
    return call


def drawn_list(seed, length, most_cash, outsides):
    """A list of calls, and what the second reckoning answers: it goes along, so that calls fit what is there."""
    draw = random.Random(seed)
    model = helper.Model()
    calls = beginning(draw, most_cash, outsides)
    told = [model.answer(call) for call in calls]
    things = [call[1] for call in calls if call[0] == 1]
    funds = [call[1] for call in calls if call[0] == 4]
    while len(calls) < length:
        more = [drawn(draw, things, funds, model)]
        if more == [[0]]:
            more += beginning(draw, most_cash, outsides)[:length - len(calls) - 1]
            things = things + [call[1] for call in more if call[0] == 1]
            funds = funds + [call[1] for call in more if call[0] == 4]
        calls += more
        told += [model.answer(call) for call in more]
    return calls, told


# The ends of each number's range, call by call.
ENDS = {
    1: ((0, 11), (0, 7), (0, 10 ** 6)),
    2: ((0, 11), (0, 10 ** 6)),
    3: ((0, 7), (0, 3)),
    4: ((0, 5), (1, 10 ** 6), (0, 10 ** 9)),
    5: ((0, 5), (0, 10 ** 6), (0, 10 ** 6), (0, 10 ** 6), (0, 10 ** 6)),
    6: ((0, 5), (0, 11), (1, 10 ** 6)),
    7: ((0, 5), (0, 11), (1, 10 ** 6)),
    8: ((0, 5), (0, 5), (1, 10 ** 9)),
    9: ((0, 5), (0, 5), (1, 10 ** 7)),
    10: ((0, 5), (1, 10 ** 9)),
    11: ((0, 5), (1, 10 ** 7)),
    12: ((1, 1000),),
    13: ((0, 5),),
    14: ((0, 60),),
    15: ((0, 5), (0, 5)),
    16: ((0, 5), (0, 7)),
    17: ((0, 5), (0, 3)),
    18: ((0, 5),),
    19: ((0, 5),),
    20: ((0, 5),),
    21: (),
}


def at_its_ends(draw, number):
    """A call with each number mostly at an end of its range, now and then one beyond or somewhere between."""
    call = [number]
    for least, most in ENDS[number]:
        if most <= 11 or draw.random() < 0.15:
            call.append(draw.randint(least, most))
        else:
            call.append(draw.choice([least, most]))
        if draw.random() < 0.03:
            call[-1] = draw.choice([least - 1, most + 1, -FAR, FAR])
    return call


def list_at_the_ends(seed):
    draw = random.Random(seed)
    calls = [[4, i, draw.choice([1, 10 ** 6]), draw.choice([1, 10 ** 9])] for i in range(5)]
    calls += [[1, k, draw.randint(0, 7), draw.choice([0, 1, 10 ** 6])] for k in range(10)]
    while len(calls) < 400:
        number = draw.choice(sorted(ENDS) + [6, 6, 7, 8, 8, 8, 8, 9, 9, 9, 9, 9])
        # Limits at 0 would soon keep everybody from buying.
        calls.append(limits_off(draw) if number == 5 and draw.random() < 0.4 else at_its_ends(draw, number))
    return calls, helper.model_answers(calls)


def limits_off(draw):
    return helper.limits(draw.randint(0, 5))


class RandomLists(unittest.TestCase):
    def compare(self, lists):
        """How often each call was done or refused with which number, in lists that both answer alike."""
        seen = collections.Counter()
        for place, (calls, wanted) in enumerate(lists):
            told = helper.ask(calls)
            with self.subTest(place=place):
                self.assertEqual(told, wanted)
            seen.update((call[0], min(answer[0], 0)) for call, answer in zip(calls, told))
            seen["noted"] += sum(answer[0] > 0 for call, answer in zip(calls, told) if call[0] == 18)
        return seen

    def came(self, seen, wanted):
        self.assertEqual([place for place in wanted if not seen[place]], [])

    def test_short_lists(self):
        seen = self.compare([drawn_list(seed, 60, 2000, (1, 30, 70, 100, 333)) for seed in range(120)])
        self.came(seen, [(6, -1), (6, -2), (6, -7), (6, -8), (6, 0), (7, -5), (7, 0), (8, -1), (8, -2), (8, -6)])
        self.came(seen, [(8, -7), (8, -8), (8, 0), (9, -5), (9, 0), (10, -6), (10, 0), (11, -5), (11, -7), (11, 0)])
        self.came(seen, [(number, 0) for number in range(12, 22)] + ["noted"])
        self.came(seen, [(number, -2) for number in (13, 15, 16, 17, 18, 19, 20)] + [(12, -1), (14, -1), (16, -1)])

    def test_few_units_outside(self):
        seen = self.compare([drawn_list(seed, 100, 300, (1, 2, 5)) for seed in range(2000, 2060)])
        self.came(seen, [(11, -9), (11, -7), (11, -5), (11, 0), (9, -9), (9, -7), (9, -5), (9, 0), "noted"])

    def test_lists_of_400_calls(self):
        self.compare([drawn_list(seed, 400, 100000, (1, 30, 70, 100, 333)) for seed in range(1000, 1004)])

    def test_400_calls_at_the_ends_of_their_ranges(self):
        seen = self.compare([list_at_the_ends(seed) for seed in range(3000, 3006)])
        self.came(seen, [(number, 0) for number in range(1, 22)] + ["noted"])
        self.came(seen, [(6, -7), (7, -5), (8, -3), (8, -6), (9, -5), (10, -6), (10, -3), (11, -5), (11, -9)])


if __name__ == "__main__":
    unittest.main()
