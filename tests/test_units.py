"""How units go to the bearers of a layer, beside a plain count unit by unit."""

import itertools
import random
import unittest

from tests.helper import (KEY, WEIGHT, any_bearers, begin, house, last, layer, lose, member, plain_shares, plain_takers,
                          run, share, shares)

# The defaulter has nothing, so that the first unit of a loss is layer 4's.
DEFAULTER = 999


def funds(bearers):
    """A house whose layer 4 has these bearers, (key, weight, most), coming in this order."""
    return [member(key, 0, most, 0, weight) for key, weight, most in bearers] + [member(DEFAULTER), begin(DEFAULTER)]


def takers(bearers):
    """The bearer of each unit of layer 4, told by which share grew."""
    room = sum(most for _, _, most in bearers)
    ahead = funds(bearers)
    seen = run(*ahead, shares(4), *[call for _ in range(room) for call in (lose(1), shares(4))])[len(ahead)::2]
    found = []
    for before, after in zip(seen, seen[1:]):
        found += [after[i - 1] for i in range(2, len(after), 2) if after[i] != before[i]]
    return found


class Order(unittest.TestCase):
    def test_the_documents_example(self):
        bearers = [(5, 3, 10), (6, 1, 10)]
        self.assertEqual(takers(bearers)[:8], [5, 5, 5, 6, 5, 5, 5, 6])
        self.assertEqual(last(*funds(bearers), lose(3), shares(4)), [2, 5, 3, 6, 0])
        self.assertEqual(last(*funds(bearers), lose(4), shares(4)), [2, 5, 3, 6, 1])
        self.assertEqual(last(*funds(bearers), lose(5), shares(4)), [2, 5, 4, 6, 1])
        self.assertEqual(last(*funds(bearers), lose(20), shares(4)), [2, 5, 10, 6, 10])

    def test_the_example_whole(self):
        # Key 5 is full with 10 when key 6 has 3; the rest is key 6's.
        self.assertEqual(takers([(5, 3, 10), (6, 1, 10)]), [5, 5, 5, 6] * 3 + [5] + [6] * 7)

    def test_of_equal_fractions_the_lowest_key(self):
        self.assertEqual(takers([(4, 2, 3), (7, 2, 3), (9, 2, 3)]), [4, 7, 9] * 3)
        self.assertEqual(takers([(9, 2, 3), (4, 2, 3), (7, 2, 3)]), [4, 7, 9] * 3)
        self.assertEqual(takers([(4, 1, 2), (7, 2, 4)]), [7, 4, 7, 7, 4, 7])
        self.assertEqual(takers([(4, 2, 4), (7, 1, 2)]), [4, 4, 7, 4, 4, 7])

    def test_one_who_has_reached_the_most_is_passed_over(self):
        self.assertEqual(takers([(1, 5, 1), (2, 1, 3), (3, 1, 2)]), [1, 2, 3, 2, 3, 2])

    def test_weight_0_beside_others_waits_for_them(self):
        self.assertEqual(takers([(1, 0, 2), (2, 1, 2), (3, 0, 1), (4, 2, 1)]), [4, 2, 2, 1, 3, 1])

    def test_weight_0_alone_goes_round_by_who_has_least(self):
        self.assertEqual(takers([(1, 0, 1), (2, 0, 3), (3, 0, 2)]), [1, 2, 3, 2, 3, 2])
        self.assertEqual(takers([(3, 0, 2), (1, 0, 1), (2, 0, 3)]), [1, 2, 3, 2, 3, 2])

    def test_a_most_of_0_never_bears(self):
        self.assertEqual(takers([(1, 9, 0), (2, 1, 2), (3, 0, 0), (4, 0, 1)]), [2, 2, 4])
        self.assertEqual(last(*funds([(1, 9, 0), (2, 1, 2)]), lose(2), shares(4)), [2, 1, 0, 2, 2])
        self.assertEqual(run(*funds([(1, 9, 0)]), lose(2), shares(4), layer(4), share(4, 1))[2:],
                         [[0], [0, 2], [1, 1, 0], [0, 0], [0]])

    def test_a_layer_without_bearers(self):
        seen = run(member(1, 1, 1, 1, 1), house(1, 2, 9), begin(1), lose(9), *[shares(k) for k in (4, 5, 6)],
                   *[layer(k) for k in (4, 5, 6)], shares(7))[3:]
        self.assertEqual(seen, [[5, 4], [0], [0], [0], [0, 0], [0, 0], [0, 0], [1, 0, 2]])

    def test_shares_come_by_rising_keys_whatever_the_order_of_the_members(self):
        bearers = [(3, 2, 4), (1, 3, 5), (KEY, 1, 3), (2, 0, 2)]
        for order in itertools.permutations(bearers):
            for loss in (1, 5, 9, 13, 14):
                with self.subTest(order=order, loss=loss):
                    self.assertEqual(last(*funds(order), lose(loss), shares(4)), plain_shares(bearers, loss))

    def test_members_between_whom_the_defaulter_stands(self):
        seen = run(member(30, 0, 3), member(20), member(10, 0, 3), begin(20), lose(1), shares(4), lose(1), shares(4))
        self.assertEqual(seen[5::2], [[2, 10, 1, 30, 0], [2, 10, 1, 30, 1]])

    def test_the_greatest_weight_beside_1(self):
        self.assertEqual(last(*funds([(1, 1, 5), (2, WEIGHT, WEIGHT + 5)]), lose(WEIGHT), shares(4)),
                         [2, 1, 1, 2, WEIGHT - 1])
        self.assertEqual(last(*funds([(1, WEIGHT, WEIGHT + 5), (2, 1, 5)]), lose(WEIGHT), shares(4)),
                         [2, 1, WEIGHT, 2, 0])


class PlainCount(unittest.TestCase):
    def check(self, bearers):
        room = sum(most for _, _, most in bearers)
        ahead = funds(bearers)
        calls = [call for _ in range(room) for call in (lose(1), shares(4))]
        seen = run(*ahead, shares(4), *calls)[len(ahead)::2]
        expected = [plain_shares(bearers, units) for units in range(room + 1)]
        self.assertEqual(seen, expected, bearers)

    def test_all_of_two_bearers(self):
        numbers = range(4)
        for weights in itertools.product(numbers, repeat=2):
            for mosts in itertools.product(numbers, repeat=2):
                self.check([(5, weights[0], mosts[0]), (6, weights[1], mosts[1])])

    def test_many_of_up_to_eleven_bearers(self):
        chance = random.Random(1)
        for _ in range(300):
            self.check(any_bearers(chance))

    def test_layers_5_and_6_are_shared_the_same_way(self):
        chance = random.Random(2)
        for _ in range(60):
            keys = chance.sample(range(1, 30), chance.randint(1, 5))
            multiple = chance.randint(0, 3)
            held = [(key, chance.randint(0, 4), chance.randint(0, 5), chance.randint(0, 9)) for key in keys]
            ahead = [member(key, 3, fund, gain, weight) for key, weight, fund, gain in held]
            ahead += [house(0, 0, multiple), member(DEFAULTER), begin(DEFAULTER)]
            mosts_4 = [(key, weight, fund) for key, weight, fund, _ in held]
            mosts_5 = [(key, weight, multiple * fund) for key, weight, fund, _ in held]
            mosts_6 = [(key, weight, gain) for key, weight, _, gain in held]
            units = [(k, key) for k, mosts in ((4, mosts_4), (5, mosts_5), (6, mosts_6)) for key in plain_takers(mosts)]
            for loss in range(1, len(units) + 1):
                borne = units[:loss]
                for k, seen in zip((4, 5, 6), run(*ahead, lose(loss), shares(4), shares(5), shares(6))[-3:]):
                    expected = [len(keys)] + [n for key in sorted(keys) for n in (key, borne.count((k, key)))]
                    self.assertEqual(seen, expected)


if __name__ == "__main__":
    unittest.main()
