"""Promises 1 to 4, as far as the calls up to shares show them, and whole lines beside a plain house."""

import random
import unittest

from fractions import Fraction

from lossbook.house import answers
from tests.helper import (PlainHouse, all_shares, begin, change, close, house, joined, layer, look, lose, member,
                          recover, run, share, shares, split_answers)

# Rooms: 5, 4, 3, 9 (6, 2 and 1), 18 (12, 4 and 2), 11 (3, 5 and 3), 4: 54 together.
HOUSE = [
    member(30, 1, 2, 5, 3),
    member(10, 5, 4, 9, 2),
    member(40, 2, 1, 3, 0),
    member(20, 7, 6, 3, 1),
    house(3, 4, 2),
    begin(10),
]
ROOMS = [5, 4, 3, 9, 18, 11, 4]
MOSTS = {4: {20: 6, 30: 2, 40: 1}, 5: {20: 12, 30: 4, 40: 2}, 6: {20: 3, 30: 5, 40: 3}}
WEIGHTS = {20: 1, 30: 3, 40: 0}
TOTAL = sum(ROOMS)


def shares_at(loss):
    """The share of each (layer, key) at the loss."""
    ahead = HOUSE + ([lose(loss)] if loss else [])
    found = {}
    for k, seen in enumerate(run(*ahead, *all_shares())[len(ahead):], start=1):
        for place in range(1, len(seen), 2):
            found[k, seen[place]] = seen[place + 1]
    return found


class Promise1(unittest.TestCase):
    def test_a_layer_bears_nothing_before_those_ahead_are_full(self):
        for loss in range(1, TOTAL + 5):
            seen = run(*HOUSE, lose(loss), *[layer(k) for k in range(1, 8)])[7:]
            self.assertEqual([room for room, _ in seen], ROOMS)
            for k, (room, borne) in enumerate(seen):
                self.assertEqual(borne, max(0, min(room, loss - sum(ROOMS[:k]))))

    def test_every_unit_has_one_bearer_or_is_nobodys(self):
        for loss in range(1, TOTAL + 5):
            seen = run(*HOUSE, lose(loss), close())
            self.assertEqual(seen[6], [min(loss, TOTAL), max(0, loss - TOTAL)])
            self.assertEqual(seen[7][0], max(0, loss - TOTAL))
            self.assertEqual(sum(shares_at(loss).values()), min(loss, TOTAL))

    def test_what_a_layer_bears_is_the_sum_of_its_shares(self):
        for loss in range(1, TOTAL + 5):
            seen = run(*HOUSE, lose(loss), *look())[7:]
            self.assertEqual([borne for _, borne in seen[:7]], [sum(told[2::2]) for told in seen[7:]])

    def test_layers_without_room_are_passed_over(self):
        seen = run(member(1), member(2, 9, 0, 7, 1), begin(1), lose(5), *[layer(k) for k in range(1, 8)])[3:]
        self.assertEqual(seen, [[5, 0], [0, 0], [0, 0], [0, 0], [0, 0], [0, 0], [7, 5], [0, 0]])

    def test_where_nobody_can_bear_all_is_uncovered(self):
        self.assertEqual(run(member(1), begin(1), lose(5), recover(2), close())[2:], [[0, 5], [2, 0], [3, 0, 0]])


class Promise2(unittest.TestCase):
    def test_one_loss_or_the_same_in_pieces_or_more_and_some_got_back(self):
        chance = random.Random(3)
        for loss in range(0, TOTAL + 6):
            whole = run(*HOUSE, *([lose(loss)] if loss else []), *look())[-14:]
            for _ in range(3):
                calls = self.pieces(chance, loss)
                self.assertEqual(run(*HOUSE, *calls, *look())[-14:], whole, calls)
                self.assertEqual(run(*HOUSE, *calls, *look(), close(), begin(20), *look())[-16:],
                                 run(*HOUSE, *([lose(loss)] if loss else []), close(), begin(20), *look())[-16:])

    def pieces(self, chance, loss):
        """Calls after which the loss is this one."""
        calls = []
        reached = 0
        for _ in range(chance.randint(0, 5)):
            goal = chance.randint(0, TOTAL + 10)
            calls += self.step(reached, goal)
            reached = goal
        return calls + self.step(reached, loss)

    def step(self, reached, goal):
        if goal == reached:
            return []
        return [lose(goal - reached)] if goal > reached else [recover(reached - goal)]

    def test_answers_of_the_pieces_add_up(self):
        for loss in range(2, TOTAL + 6):
            whole = run(*HOUSE, lose(loss))[-1]
            for piece in range(1, loss):
                first, second = run(*HOUSE, lose(piece), lose(loss - piece))[-2:]
                self.assertEqual([first[0] + second[0], second[1]], whole)

    def test_recover_undoes_what_lose_answered(self):
        for loss in range(1, TOTAL + 6):
            for back in range(1, loss + 1):
                lost, got, again = run(*HOUSE, lose(loss), recover(back), lose(back))[-3:]
                self.assertEqual(sum(got), back)
                self.assertEqual(again, [got[1], lost[1]])


class Promise3(unittest.TestCase):
    def test_of_two_losses_one_unit_apart_one_share_differs_by_one(self):
        for loss in range(TOTAL):
            before, after = shares_at(loss), shares_at(loss + 1)
            self.assertEqual(before.keys(), after.keys())
            self.assertEqual(sorted(after[at] - before[at] for at in after), [0] * (len(after) - 1) + [1])

    def test_behind_the_seventh_layer_no_share_differs(self):
        for loss in (TOTAL, TOTAL + 1, TOTAL + 1000):
            self.assertEqual(shares_at(loss), shares_at(loss + 1))

    def test_in_great_numbers_too(self):
        ahead = [member(key, key, 10 ** 12 - key, 10 ** 12 - 3 * key, 7 * key % 12 * 90001) for key in range(1, 13)]
        ahead += [house(5, 6, 10), begin(5)]
        for loss in (10 ** 12 + 17, 10 ** 13 + 3, 3 * 10 ** 13 + 1, 10 ** 14 + 9, 125 * 10 ** 12 + 5):
            seen = run(*ahead, lose(loss), *all_shares(), lose(1), *all_shares())[len(ahead):]
            before, after = sum(seen[1:8], []), sum(seen[9:], [])
            self.assertEqual(sorted(b - a for a, b in zip(before, after)), [0] * (len(after) - 1) + [1])


class Promise4(unittest.TestCase):
    def test_nobody_below_the_most_waits_for_a_unit_that_was_to_come_later(self):
        for loss in range(TOTAL + 1):
            borne = shares_at(loss)
            for k, mosts in MOSTS.items():
                for waiting, most in mosts.items():
                    if borne[k, waiting] < most:
                        self.nobody_is_ahead_wrongly(k, waiting, borne)

    def nobody_is_ahead_wrongly(self, k, waiting, borne):
        """The next unit of the one who waits comes behind the last unit that each of the others has."""
        for other in MOSTS[k]:
            if other != waiting and borne[k, other] > 0:
                self.assertLess(self.turn(other, borne[k, other]), self.turn(waiting, borne[k, waiting] + 1))

    def turn(self, key, unit):
        """Where a bearer's unit stands in the layer: those with a weight first, by fraction, then by key."""
        weight = WEIGHTS[key]
        return (0, Fraction(unit, weight), key) if weight else (1, unit, key)


class WholeLines(unittest.TestCase):
    def test_beside_a_plain_house(self):
        chance = random.Random(4)
        refused = {}
        for _ in range(400):
            calls = [self.any_call(chance) for _ in range(chance.randint(1, 60))]
            plain = PlainHouse()
            expected = [plain.answer(call) for call in calls]
            self.assertEqual(split_answers(answers(joined(calls))), expected, calls)
            for call, answered in zip(calls, expected):
                refused[call[0], min(answered[0], 0)] = True
        # Every call was answered and refused in each of its ways, but -9, which wants many members.
        self.assertEqual(sorted(refused), sorted(
            [(number, 0) for number in range(10)]
            + [(number, -1) for number in range(10) if number != 6]
            + [(number, -5) for number in (0, 1, 2, 3)] + [(number, -7) for number in (4, 5, 6, 7, 8, 9)]
            + [(0, -2), (2, -4), (3, -4), (4, -6), (5, -6), (8, -8)]))

    def any_call(self, chance):
        key = chance.choice([0, 1, 2, 3, 4, 5])
        number = chance.choice([0, 0, 0, 0, 1, 2, 2, 3, 3, 4, 4, 4, 4, 5, 5, 6, 7, 8, 8, 9, 9, 9])
        money = [chance.choice([0, 1, 2, 3, 5, 8]) for _ in range(3)]
        units = chance.choice([0, 1, 2, 3, 5, 8, 13, 21, 34, 10 ** 15 - 5])
        k = chance.randint(0, 8)
        return [
            member(key, money[0], money[1], money[2], chance.choice([-1, 0, 1, 2, 3])),
            house(money[0], money[1], chance.choice([0, 1, 2, 11])),
            change(key, chance.randint(0, 5), money[0]),
            begin(key),
            lose(units),
            recover(units),
            close(),
            layer(k),
            share(k, key),
            shares(k),
        ][number]


if __name__ == "__main__":
    unittest.main()
