"""who, next, at, until, between and check beside a plain count, unit by unit, of every unit of every layer."""

import itertools
import random
import unittest

from tests.helper import (LOSS, WEIGHT, PlainHouse, any_bearers, at, begin, between, check, house, look_closely, lose,
                          member, next_unit, plain_takers, run, run_in_lines, until, who)

DEFAULTER = 15

# Each is the calls of a house whose member 15 defaults; what it is there for stands ahead of it.
HOUSES = {
    "weights and equal fractions": [
        member(30, 1, 4, 5, 3), member(DEFAULTER, 3, 2, 9, 2), member(20, 7, 6, 3, 1), member(10, 7, 5, 6, 3),
        house(2, 3, 2)],
    "weight 0 beside others": [
        member(30, 1, 4, 5, 0), member(DEFAULTER, 3, 2, 9, 0), member(20, 7, 3, 3, 2), member(10, 7, 5, 2, 0),
        member(40, 0, 2, 2, 5), house(2, 3, 1)],
    "weight 0 alone": [
        member(30, 1, 4, 5, 0), member(DEFAULTER, 3, 2, 9, 1), member(20, 7, 1, 3, 0), member(10, 7, 5, 2, 0),
        house(1, 1, 2)],
    "one of weight 0 alone": [member(DEFAULTER, 1, 1, 1, 1), member(2, 3, 3, 3, 0), house(1, 1, 1)],
    "a most of 0": [
        member(30, 1, 0, 5, 3), member(DEFAULTER, 3, 2, 9, 2), member(20, 7, 6, 0, 1), member(10, 7, 4, 3, 0),
        member(40, 7, 0, 0, 0), house(2, 3, 1)],
    "layers of room 0 between others": [
        member(DEFAULTER, 3, 0, 0, 0), member(20, 0, 2, 0, 1), member(30, 0, 3, 0, 1), house(0, 2, 2)],
    "the first layers and the last of room 0": [
        member(DEFAULTER, 0, 0, 9, 0), member(20, 0, 2, 4, 1), member(30, 0, 3, 2, 1), house(0, 0, 0)],
    "layer 6 alone": [member(DEFAULTER), member(20, 9, 0, 4, 2), member(30, 9, 0, 2, 1), house(0, 0, 10)],
    "the last layer alone": [member(DEFAULTER), member(20), house(0, 3, 10)],
    "layers without bearers": [member(DEFAULTER, 2, 3, 4, 5), house(1, 2, 3)],
    "no room at all": [member(DEFAULTER), member(20, 9, 0, 0, 2)],
    "nobody and nothing": [member(DEFAULTER)],
    "greatest weight beside least": [
        member(DEFAULTER, 1, 1, 1, 1), member(1, 0, 3, 4, 1), member(2, 0, 3, 4, WEIGHT),
        member(3, 0, 3, 4, WEIGHT - 1), house(1, 1, 2)],
}


def plain_behind(calls):
    plain = PlainHouse()
    for call in calls:
        assert plain.answer(call) == [0], call
    return plain


class EveryUnit(unittest.TestCase):
    """Each test goes through all the houses; total is how many units have a bearer."""

    def each(self):
        for calls in HOUSES.values():
            ahead = calls + [begin(DEFAULTER)]
            plain = plain_behind(ahead)
            yield ahead, plain, len(plain.units())

    def compare(self, ahead, plain, calls):
        expected = [plain.answer(call) for call in calls]
        self.assertEqual(run_in_lines(ahead, calls), expected, ahead)
        return expected

    def bearers(self, plain):
        return [(k, *bearer) for k in range(1, 8) for bearer in plain.bearers(k)]

    def test_who(self):
        for ahead, plain, total in self.each():
            told = self.compare(ahead, plain, [who(u) for u in range(1, total + 5)])
            self.assertEqual(told[total:], [[8, 0]] * 4)
            self.assertNotIn([8, 0], told[:total])

    def test_next(self):
        for ahead, plain, total in self.each():
            calls = [next_unit()] + [call for _ in range(total + 3) for call in (lose(1), next_unit())]
            told = run(*ahead, *calls)[len(ahead)::2]
            self.assertEqual(told, [plain.unit(u) for u in range(1, total + 5)], ahead)

    def test_at(self):
        for ahead, plain, total in self.each():
            self.compare(ahead, plain, [at(n, k, key) for k, key, _, _ in self.bearers(plain)
                                        for n in list(range(total + 4)) + [LOSS]])

    def test_until(self):
        for ahead, plain, total in self.each():
            for k, key, _, most in self.bearers(plain):
                told = self.compare(ahead, plain, [until(k, key, m) for m in range(1, most + 3)])
                self.assertEqual(told[most:], [[-3], [-3]])
                self.assertNotIn([-3], told[:most])

    def test_until_is_the_least_loss_at_which_the_share_is_so_great(self):
        for ahead, plain, total in self.each():
            for k, key, _, most in self.bearers(plain):
                losses = [loss for loss, in run_in_lines(ahead, [until(k, key, m) for m in range(1, most + 1)])]
                shares = run_in_lines(ahead, [at(n, k, key) for loss in losses for n in (loss - 1, loss)])
                self.assertEqual(shares, [[n] for m in range(1, most + 1) for n in (m - 1, m)])
                self.assertEqual(run_in_lines(ahead, [who(loss) for loss in losses]), [[k, key]] * most)

    def test_between(self):
        for ahead, plain, total in self.each():
            edges = sorted({0, total, total + 2, LOSS} | set(range(0, total, 5)) | set(range(1, total, 7)))
            self.compare(ahead, plain, [between(a, b, k, key) for k, key, _, _ in self.bearers(plain)
                                        for a in edges for b in edges if a <= b])

    def test_check(self):
        for ahead, plain, total in self.each():
            for k in range(1, 8):
                self.check_layer(ahead, plain, k)

    def check_layer(self, ahead, plain, k):
        takers = plain_takers(plain.bearers(k))
        keys = sorted(key for key, _, _ in plain.bearers(k))
        right = [[takers[:n].count(key) for key in keys] for n in range(len(takers) + 1)]
        calls = [check(k, n, given) for n in range(len(right)) for given in right]
        told = self.compare(ahead, plain, calls)
        self.assertEqual(told, [[int(n == m)] for n in range(len(right)) for m in range(len(right))])
        for n, given in enumerate(right):
            wrong = [given + [0], [0] + given] + [given[:-1]] * (given != [])
            for place in range(len(given)):
                wrong += [given[:place] + [given[place] + step] + given[place + 1:] for step in (1, -1)
                          if given[place] + step >= 0]
            told = self.compare(ahead, plain, [check(k, n, one) for one in wrong])
            self.assertEqual(told, [[0]] * len(wrong))
        for n in (len(takers) + 1, len(takers) + 2, LOSS):
            more = [right[-1]] + [[given + (place == at_place) for at_place, given in enumerate(right[-1])]
                                  for place in range(len(keys))]
            self.assertEqual(self.compare(ahead, plain, [check(k, n, one) for one in more]), [[0]] * len(more))


class ManyHouses(unittest.TestCase):
    def test_all_of_two_bearers(self):
        numbers = range(4)
        for weights in itertools.product(numbers, repeat=2):
            for mosts in itertools.product(numbers, repeat=2):
                ahead = [member(9), member(5, 0, mosts[0], 0, weights[0]), member(6, 0, mosts[1], 0, weights[1]),
                         begin(9)]
                self.check_layer_4(ahead, [(5, weights[0], mosts[0]), (6, weights[1], mosts[1])])

    def check_layer_4(self, ahead, bearers):
        takers = plain_takers(bearers)
        calls, expected = [], []
        for u, taker in enumerate(takers, start=1):
            m = takers[:u].count(taker)
            calls += [who(u), until(4, taker, m), at(u, 4, taker), at(u - 1, 4, taker), between(u - 1, u, 4, taker)]
            expected += [[4, taker], [u], [m], [m - 1], [1]]
            calls.append(check(4, u, [takers[:u].count(key) for key, _, _ in sorted(bearers)]))
            expected.append([1])
        self.assertEqual(run_in_lines(ahead, calls), expected, bearers)

    def test_many_of_up_to_eleven_bearers(self):
        chance = random.Random(5)
        for _ in range(200):
            bearers = any_bearers(chance)
            ahead = [member(key, 0, bound, 0, own) for key, own, bound in bearers] + [member(99), begin(99)]
            self.check_layer_4(ahead, bearers)

    def test_every_call_on_any_small_house(self):
        chance = random.Random(6)
        for _ in range(40):
            keys = chance.sample(range(1, 20), chance.randint(1, 5))
            ahead = [member(key, *[chance.randint(0, 4) for _ in range(3)], chance.choice([0, 1, 1, 2, 3]))
                     for key in keys]
            ahead += [house(chance.randint(0, 3), chance.randint(0, 3), chance.randint(0, 2)), begin(keys[0])]
            plain = plain_behind(ahead)
            loss = chance.randint(1, len(plain.units()) + 3)
            plain.answer(lose(loss))
            calls = look_closely([0, 21] + keys, [0, 1, 2, 3, 5, 8, 13, 21, 34, 55])
            self.assertEqual(run_in_lines(ahead + [lose(loss)], calls), [plain.answer(call) for call in calls])


class BehindTheGreatestLoss(unittest.TestCase):
    def test_next_is_nobodys(self):
        for calls in HOUSES.values():
            told = run(*calls, begin(DEFAULTER), lose(LOSS), next_unit(), who(LOSS))
            self.assertEqual(told[-2:], [[8, 0], [8, 0]])


if __name__ == "__main__":
    unittest.main()
