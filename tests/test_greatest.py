"""The greatest numbers that the document lets be handed in, and the longest lines."""

import time
import unittest

from lossbook.house import answers
from tests.helper import (ARGUMENT, KEY, LOSS, MONEY, MULTIPLE, WEIGHT, all_shares, at, begin, between, check, close,
                          fair, heaps, house, joined, last, layer, look, look_closely, lose, member, members,
                          next_unit, person, recover, run, shares, split_answers, until, who)

KEYS = [KEY - place for place in range(12)]
EQUAL = [member(key, MONEY, MONEY, MONEY, WEIGHT) for key in KEYS] + [house(MONEY, MONEY, MULTIPLE), begin(KEY)]
UNEQUAL = [member(key, MONEY - place, MONEY - place * place, MONEY - 7 * place, WEIGHT - 99991 * (place % 11))
           for place, key in enumerate(KEYS)] + [house(MONEY, MONEY, MULTIPLE), begin(KEYS[4])]
# Two layers of the defaulter's, two of the house's, and of eleven others each 1 + 10 + 1.
COVERED = 4 * MONEY + 11 * 12 * MONEY
# No machine is so slow, while a count unit by unit would take years.
SECONDS = 20


def plain_count_by_place(bearers, units):
    """Shares found another way: how many units stand at or ahead of each bearer's unit, halving for the last one."""
    found = {}
    for key, weight, most in bearers:
        low, high = 0, most
        while low < high:
            middle = (low + high + 1) // 2
            place = sum(min(m, middle * w // weight if k <= key else -(-middle * w // weight) - 1)
                        for k, w, m in bearers)
            low, high = (middle, high) if place <= units else (low, middle - 1)
        found[key] = low
    return found


class GreatestNumbers(unittest.TestCase):
    def test_the_greatest_loss(self):
        seen = run(*EQUAL, lose(LOSS), *[layer(k) for k in range(1, 8)], close())[14:]
        rooms = [MONEY, MONEY, MONEY, 11 * MONEY, 110 * MONEY, 11 * MONEY, MONEY]
        self.assertEqual(seen, [[COVERED, LOSS - COVERED]] + [[room, room] for room in rooms]
                         + [[LOSS - COVERED, 0, 0]])

    def test_the_greatest_loss_and_all_of_it_back(self):
        self.assertEqual(run(*EQUAL, lose(LOSS), recover(LOSS), lose(1))[14:],
                         [[COVERED, LOSS - COVERED], [LOSS - COVERED, COVERED], [1, 0]])

    def test_equal_shares_of_great_numbers(self):
        # Ten units more than eleven can share equally: the lowest ten keys have one more.
        told = last(*EQUAL, lose(3 * MONEY + 11 * (MONEY - 5) + 10), shares(4))
        self.assertEqual(told[0::2], [11] + [MONEY - 4] * 10 + [MONEY - 5])
        self.assertEqual(told[1::2], sorted(KEYS)[:11])

    def test_unequal_shares_of_great_numbers(self):
        others = [key for key in KEYS if key != KEYS[4]]
        held = {key: UNEQUAL[place] for place, key in enumerate(KEYS)}
        bearers = {
            4: [(key, held[key][5], held[key][3]) for key in others],
            5: [(key, held[key][5], MULTIPLE * held[key][3]) for key in others],
            6: [(key, held[key][5], held[key][4]) for key in others],
        }
        ahead = held[KEYS[4]][2] + held[KEYS[4]][3] + MONEY
        for k in (4, 5, 6):
            room = sum(most for _, _, most in bearers[k])
            for units in (1, 2, 11, 12, 10 ** 6 + 1, room // 3, room // 2 + 7, room - room // 9, room - 1, room):
                told = last(*UNEQUAL, lose(ahead + units), shares(k))
                expected = plain_count_by_place(bearers[k], units)
                self.assertEqual(told, [11] + [n for key in sorted(others) for n in (key, expected[key])])
            ahead += room

    def test_weight_0_and_the_greatest_money(self):
        ahead = [member(key, 0, MONEY, 0, 0) for key in KEYS] + [begin(KEYS[11])]
        told = last(*ahead, lose(MONEY + 11 * 12345678901 + 3), shares(4))
        self.assertEqual(told[2::2], [12345678902] * 3 + [12345678901] * 8)

    def test_least_and_greatest_weight_side_by_side(self):
        ahead = [member(1, 0, MONEY, 0, 1), member(2, 0, MONEY, 0, WEIGHT), member(3), begin(3)]
        for units, shares_of_both in ((WEIGHT - 1, (0, WEIGHT - 1)), (WEIGHT, (1, WEIGHT - 1)),
                                      (MONEY, (MONEY // (WEIGHT + 1), MONEY - MONEY // (WEIGHT + 1))),
                                      (2 * MONEY - 1, (MONEY - 1, MONEY)), (2 * MONEY, (MONEY, MONEY))):
            self.assertEqual(last(*ahead, lose(units), shares(4)), [2, 1, shares_of_both[0], 2, shares_of_both[1]])

    def test_arguments_far_outside_are_refused(self):
        counts = {0: 5, 1: 3, 2: 3, 3: 1, 4: 1, 5: 1, 7: 1, 8: 2, 9: 1, 10: 1, 11: 1, 12: 3, 13: 3, 15: 4, 19: 2}
        for argument in (-ARGUMENT, ARGUMENT):
            for ahead in ([], EQUAL):
                for number, count in counts.items():
                    self.assertEqual(last(*ahead, [number] + [argument] * count), [-1])
                for length in (0, 1, 12, 13, 20):
                    self.assertEqual(last(*ahead, check(argument, argument, [argument] * length)), [-1])
                self.assertEqual(last(*ahead, check(1, 0, [argument])), [-1])


class LooksAtGreatestNumbers(unittest.TestCase):
    OTHERS = sorted(KEYS)[:11]

    def test_units(self):
        edges = {1: [1, KEY], MONEY: [1, KEY], MONEY + 1: [2, KEY], 2 * MONEY + 1: [3, 0], 3 * MONEY: [3, 0],
                 3 * MONEY + 1: [4, self.OTHERS[0]], 3 * MONEY + 11: [4, KEY - 1], 14 * MONEY: [4, KEY - 1],
                 14 * MONEY + 1: [5, self.OTHERS[0]], 124 * MONEY: [5, KEY - 1], 124 * MONEY + 2: [6, self.OTHERS[1]],
                 135 * MONEY: [6, KEY - 1], 135 * MONEY + 1: [7, 0], COVERED: [7, 0], COVERED + 1: [8, 0],
                 LOSS: [8, 0]}
        self.assertEqual(run(*EQUAL, *[who(u) for u in edges])[14:], list(edges.values()))
        for unit, told in edges.items():
            ahead = EQUAL + ([lose(unit - 1)] if unit > 1 else [])
            self.assertEqual(last(*ahead, next_unit()), told)

    def test_next_behind_the_greatest_loss(self):
        self.assertEqual(run(*EQUAL, lose(LOSS), next_unit(), recover(LOSS - COVERED + 1), next_unit())[14:],
                         [[COVERED, LOSS - COVERED], [8, 0], [LOSS - COVERED, 1], [7, 0]])

    def test_equal_bearers(self):
        key = self.OTHERS[4]
        told = run(*EQUAL, at(LOSS, 5, key), at(14 * MONEY + 11 * 7 + 4, 5, key), at(14 * MONEY + 11 * 7 + 5, 5, key),
                   until(5, key, 10 * MONEY), until(5, key, 10 * MONEY + 1), until(5, key, LOSS),
                   between(0, LOSS, 5, key), between(LOSS, LOSS, 5, key), between(14 * MONEY, LOSS, 4, key))[14:]
        self.assertEqual(told, [[10 * MONEY], [7], [8], [14 * MONEY + 11 * (10 * MONEY - 1) + 5], [-3], [-3],
                                [10 * MONEY], [0], [0]])

    def test_persons_heaps_and_members(self):
        told = run(*EQUAL, lose(LOSS), person(0), person(KEY), person(KEY - 1), heaps(), members(), close(), heaps())
        self.assertEqual(told[15:], [
            [2 * MONEY], [2 * MONEY], [12 * MONEY], [12 * MONEY] * 3 + [MONEY, MONEY, 0, 0], [12] + sorted(KEYS),
            [LOSS - COVERED, 0, 0], [11 * MONEY, 0, 0, 0, 0, 110 * MONEY, LOSS - COVERED]])

    def test_sums_grow_beyond_the_greatest_loss(self):
        calls = []
        for key in KEYS:
            calls += [begin(key), lose(LOSS), close()]
        told = run(*EQUAL[:13], *calls, heaps(), members())
        uncovered = LOSS - COVERED + sum(LOSS - MONEY for _ in range(11))
        self.assertEqual(told[-2:], [[0, 0, 0, 0, 0, 110 * MONEY, uncovered], [0]])

    def test_fair(self):
        told = run(*EQUAL, lose(14 * MONEY + 100), fair(4, KEY - 1), fair(5, KEY - 1), fair(5, KEYS[11]))[15:]
        self.assertEqual(told, [[MONEY, MONEY], [9, 9], [10, 9]])
        ahead = [member(1, 0, MONEY, 0, 1), member(2, 0, MONEY, 0, WEIGHT), member(3), begin(3), lose(LOSS)]
        self.assertEqual(run(*ahead, fair(4, 1), fair(4, 2))[5:],
                         [[MONEY, 2 * MONEY // (WEIGHT + 1)], [MONEY, 2 * MONEY * WEIGHT // (WEIGHT + 1)]])

    def test_until_and_at_and_who_and_check_agree(self):
        others = sorted(key for key in KEYS if key != KEYS[4])
        ahead_of = {4: MONEY - 4 + MONEY - 16 + MONEY}
        for k in (5, 6):
            ahead_of[k] = ahead_of[k - 1] + last(*UNEQUAL, layer(k - 1))[0]
        for k in (4, 5, 6):
            for key in (others[0], others[5], others[10]):
                for m in (1, 2, 1000003, MONEY // 7, MONEY - 200):
                    loss, = last(*UNEQUAL, until(k, key, m))
                    told = run(*UNEQUAL, at(loss - 1, k, key), at(loss, k, key), who(loss), lose(loss), shares(k))[14:]
                    self.assertEqual(told[:3], [[m - 1], [m], [k, key]])
                    right = check(k, loss - ahead_of[k], told[4][2::2])
                    wrong = [check(k, loss - ahead_of[k] + step, told[4][2::2]) for step in (-1, 1)]
                    self.assertEqual(run(*UNEQUAL, right, *wrong)[14:], [[1], [0], [0]])

    def test_weight_0(self):
        ahead = [member(key, 0, MONEY, 0, 0) for key in KEYS] + [begin(KEYS[11])]
        first, last_one = KEYS[10], KEYS[0]
        told = run(*ahead, until(4, first, MONEY), until(4, last_one, MONEY), who(MONEY + 11 * 12345678901 + 3),
                   at(MONEY + 11 * 12345678901 + 3, 4, first), check(4, 11 * MONEY, [MONEY] * 11))[13:]
        self.assertEqual(told, [[12 * MONEY - 10], [12 * MONEY], [4, KEYS[8]], [12345678902], [1]])


class LongestLines(unittest.TestCase):
    def check_quick(self, calls):
        self.assertEqual(len(calls), 400)
        begun = time.monotonic()
        lists = split_answers(answers(joined(calls)))
        self.assertLess(time.monotonic() - begun, SECONDS)
        self.assertEqual(len(lists), 400)
        return lists

    def test_shares_at_ever_other_losses(self):
        calls = list(UNEQUAL)
        while len(calls) < 399:
            calls += [lose(678901234567), shares(len(calls) // 2 % 3 + 4)]
        lists = self.check_quick((calls + [layer(1)] * 2)[:400])
        self.assertNotIn([-1], lists)

    def test_looks_at_the_greatest_loss(self):
        self.check_quick((EQUAL + [lose(LOSS)] + look() * 40)[:400])

    def test_loss_after_loss(self):
        lists = self.check_quick((EQUAL + [lose(LOSS), recover(LOSS)] * 200)[:400])
        self.assertEqual(lists[-1], [LOSS - COVERED, COVERED])

    def test_event_after_event(self):
        calls = []
        for turn in range(40):
            calls += [member(key, MONEY, MONEY, MONEY, WEIGHT - key % 5) for key in KEYS[:4]]
            calls += [house(MONEY, MONEY, MULTIPLE), begin(KEYS[turn % 4]), lose(LOSS // (turn + 1)), shares(5),
                      recover(1), close()]
        self.check_quick(calls)

    def test_each_call_from_person_to_fair_fills_a_line(self):
        key = KEYS[7]
        for ahead in (EQUAL, UNEQUAL):
            for begun in (ahead, ahead + [lose(77777777777777)], ahead + [lose(LOSS)]):
                for call in (person(key), person(0), who(99999999999999), who(LOSS), at(99999999999999, 5, key),
                             at(LOSS, 6, key), until(5, key, 7777777777777), until(6, key, MONEY // 2), next_unit(),
                             between(33333333333333, 99999999999999, 5, key), between(0, LOSS, 6, key),
                             check(5, 77777777777777, [7070707070707] * 11), check(4, LOSS, [LOSS] * 12), heaps(),
                             members(), fair(5, key)):
                    lists = self.check_quick((begun + [call] * 400)[:400])
                    self.assertEqual(lists[len(begun):], [lists[-1]] * (400 - len(begun)))
                    self.assertGreaterEqual(min(lists[-1]), 0, call)

    def test_lines_of_the_longest_lists(self):
        lists = self.check_quick((UNEQUAL + [check(5, LOSS, [ARGUMENT] * 20), check(5, LOSS, [LOSS] * 12)] * 200)[:400])
        self.assertEqual(lists[14:], [[-1], [0]] * 193)

    def test_looks_with_nothing_but_refusals(self):
        calls = [person(1), who(1), at(1, 1, 1), until(1, 1, 1), next_unit(), between(1, 1, 1, 1), check(1, 1, [1]),
                 fair(1, 1)]
        self.assertEqual(self.check_quick(calls * 50), [[-7]] * 400)

    def test_all_looks_at_ever_other_losses(self):
        looks = look_closely([0, *KEYS], [0, 1, 12345678901234, 98765432109876, LOSS])
        for begun in range(0, len(looks), 193):
            calls = list(UNEQUAL)
            for call in looks[begun:begun + 193]:
                calls += [lose(678901234567), call]
            self.check_quick((calls + [heaps()] * 400)[:400])

    def test_four_hundred_members_of_whom_twelve_come(self):
        lists = self.check_quick([member(key) for key in range(1, 401)])
        self.assertEqual(lists, [[0]] * 12 + [[-9]] * 388)

    def test_four_hundred_refusals(self):
        self.assertEqual(self.check_quick([close()] * 400), [[-7]] * 400)


class WhatIsHandedIn(unittest.TestCase):
    LINE = joined(UNEQUAL + [lose(10 ** 13)] + all_shares() + look_closely([0, KEYS[5]], [0, 7, 10 ** 13]) + [
        check(4, 10, [0] * 20), check(5, 11, [1] * 11), recover(7), close(), begin(KEY), *look(), close(), heaps(),
        members()])

    def test_stays_the_same(self):
        handed = list(self.LINE)
        answers(handed)
        self.assertEqual(handed, self.LINE)

    def test_is_not_changed_for_a_while_either(self):
        class Watched(list):
            """A list that refuses every change."""

        def refuse(*_):
            raise AssertionError("changed")

        for name in ("append", "extend", "insert", "pop", "remove", "clear", "reverse", "sort", "__setitem__",
                     "__delitem__", "__iadd__", "__imul__"):
            setattr(Watched, name, refuse)
        self.assertEqual(answers(Watched(self.LINE)), answers(list(self.LINE)))

    def test_called_twice_answers_the_same_twice(self):
        first = answers(self.LINE)
        kept = list(first)
        second = answers(self.LINE)
        self.assertEqual(second, kept)
        self.assertEqual(first, kept)
        self.assertIsNot(first, second)

    def test_nothing_is_kept_for_another_line(self):
        answers(joined(EQUAL))
        self.assertEqual(run(begin(KEY), close(), member(KEY), member(KEYS[1])), [[-4], [-7], [0], [0]])

    def test_a_list_of_whole_numbers_is_given_back(self):
        answered = answers(self.LINE)
        self.assertIs(type(answered), list)
        self.assertEqual({type(number) for number in answered}, {int})


if __name__ == "__main__":
    unittest.main()
