"""The greatest numbers that the document lets be handed in, and the longest lines."""

import time
import unittest

from lossbook.house import answers
from tests.helper import (ARGUMENT, KEY, LOSS, MONEY, MULTIPLE, WEIGHT, all_shares, begin, close, house, joined, last,
                          layer, look, lose, member, recover, run, shares, split_answers)

KEYS = [KEY - place for place in range(12)]
EQUAL = [member(key, MONEY, MONEY, MONEY, WEIGHT) for key in KEYS] + [house(MONEY, MONEY, MULTIPLE), begin(KEY)]
UNEQUAL = [member(key, MONEY - place, MONEY - place * place, MONEY - 7 * place, WEIGHT - 99991 * (place % 11))
           for place, key in enumerate(KEYS)] + [house(MONEY, MONEY, MULTIPLE), begin(KEYS[4])]
# Two layers of the defaulter's, two of the house's, and of eleven others each 1 + 10 + 1.
COVERED = 4 * MONEY + 11 * 12 * MONEY
# No machine is so slow, while a count unit by unit would take years.
SECONDS = 20


def plain_count_by_place(bearers, units):
    """Shares found another way: how many units stand at or ahead of each bearer's unit, halving for the last one."""
    found = {}
    for key, weight, most in bearers:
        low, high = 0, most
        while low < high:
            middle = (low + high + 1) // 2
            place = sum(min(m, middle * w // weight if k <= key else -(-middle * w // weight) - 1)
                        for k, w, m in bearers)
            low, high = (middle, high) if place <= units else (low, middle - 1)
        found[key] = low
    return found


class GreatestNumbers(unittest.TestCase):
    def test_the_greatest_loss(self):
        seen = run(*EQUAL, lose(LOSS), *[layer(k) for k in range(1, 8)], close())[14:]
        rooms = [MONEY, MONEY, MONEY, 11 * MONEY, 110 * MONEY, 11 * MONEY, MONEY]
        self.assertEqual(seen, [[COVERED, LOSS - COVERED]] + [[room, room] for room in rooms]
                         + [[LOSS - COVERED, 0, 0]])

    def test_the_greatest_loss_and_all_of_it_back(self):
        self.assertEqual(run(*EQUAL, lose(LOSS), recover(LOSS), lose(1))[14:],
                         [[COVERED, LOSS - COVERED], [LOSS - COVERED, COVERED], [1, 0]])

    def test_equal_shares_of_great_numbers(self):
        # Ten units more than eleven can share equally: the lowest ten keys have one more.
        told = last(*EQUAL, lose(3 * MONEY + 11 * (MONEY - 5) + 10), shares(4))
        self.assertEqual(told[0::2], [11] + [MONEY - 4] * 10 + [MONEY - 5])
        self.assertEqual(told[1::2], sorted(KEYS)[:11])

    def test_unequal_shares_of_great_numbers(self):
        others = [key for key in KEYS if key != KEYS[4]]
        held = {key: UNEQUAL[place] for place, key in enumerate(KEYS)}
        bearers = {
            4: [(key, held[key][5], held[key][3]) for key in others],
            5: [(key, held[key][5], MULTIPLE * held[key][3]) for key in others],
            6: [(key, held[key][5], held[key][4]) for key in others],
        }
        ahead = held[KEYS[4]][2] + held[KEYS[4]][3] + MONEY
        for k in (4, 5, 6):
            room = sum(most for _, _, most in bearers[k])
            for units in (1, 2, 11, 12, 10 ** 6 + 1, room // 3, room // 2 + 7, room - room // 9, room - 1, room):
                told = last(*UNEQUAL, lose(ahead + units), shares(k))
                expected = plain_count_by_place(bearers[k], units)
                self.assertEqual(told, [11] + [n for key in sorted(others) for n in (key, expected[key])])
            ahead += room

    def test_weight_0_and_the_greatest_money(self):
        ahead = [member(key, 0, MONEY, 0, 0) for key in KEYS] + [begin(KEYS[11])]
        told = last(*ahead, lose(MONEY + 11 * 12345678901 + 3), shares(4))
        self.assertEqual(told[2::2], [12345678902] * 3 + [12345678901] * 8)

    def test_least_and_greatest_weight_side_by_side(self):
        ahead = [member(1, 0, MONEY, 0, 1), member(2, 0, MONEY, 0, WEIGHT), member(3), begin(3)]
        for units, shares_of_both in ((WEIGHT - 1, (0, WEIGHT - 1)), (WEIGHT, (1, WEIGHT - 1)),
                                      (MONEY, (MONEY // (WEIGHT + 1), MONEY - MONEY // (WEIGHT + 1))),
                                      (2 * MONEY - 1, (MONEY - 1, MONEY)), (2 * MONEY, (MONEY, MONEY))):
            self.assertEqual(last(*ahead, lose(units), shares(4)), [2, 1, shares_of_both[0], 2, shares_of_both[1]])

    def test_arguments_far_outside_are_refused(self):
        counts = (5, 3, 3, 1, 1, 1, 0, 1, 2, 1)
        for number, count in enumerate(counts):
            for argument in (-ARGUMENT, ARGUMENT):
                for ahead in ([], EQUAL):
                    refusal = -1 if count else -7
                    if number == 6 and ahead:
                        continue
                    self.assertEqual(last(*ahead, [number] + [argument] * count), [refusal])


class LongestLines(unittest.TestCase):
    def check_quick(self, calls):
        self.assertEqual(len(calls), 400)
        begun = time.monotonic()
        lists = split_answers(answers(joined(calls)))
        self.assertLess(time.monotonic() - begun, SECONDS)
        self.assertEqual(len(lists), 400)
        return lists

    def test_shares_at_ever_other_losses(self):
        calls = list(UNEQUAL)
        while len(calls) < 399:
            calls += [lose(678901234567), shares(len(calls) // 2 % 3 + 4)]
        lists = self.check_quick((calls + [layer(1)] * 2)[:400])
        self.assertNotIn([-1], lists)

    def test_looks_at_the_greatest_loss(self):
        self.check_quick((EQUAL + [lose(LOSS)] + look() * 40)[:400])

    def test_loss_after_loss(self):
        lists = self.check_quick((EQUAL + [lose(LOSS), recover(LOSS)] * 200)[:400])
        self.assertEqual(lists[-1], [LOSS - COVERED, COVERED])

    def test_event_after_event(self):
        calls = []
        for turn in range(40):
            calls += [member(key, MONEY, MONEY, MONEY, WEIGHT - key % 5) for key in KEYS[:4]]
            calls += [house(MONEY, MONEY, MULTIPLE), begin(KEYS[turn % 4]), lose(LOSS // (turn + 1)), shares(5),
                      recover(1), close()]
        self.check_quick(calls)

    def test_four_hundred_members_of_whom_twelve_come(self):
        lists = self.check_quick([member(key) for key in range(1, 401)])
        self.assertEqual(lists, [[0]] * 12 + [[-9]] * 388)

    def test_four_hundred_refusals(self):
        self.assertEqual(self.check_quick([close()] * 400), [[-7]] * 400)


class WhatIsHandedIn(unittest.TestCase):
    LINE = joined(UNEQUAL + [lose(10 ** 13)] + all_shares() + [recover(7), close(), begin(KEY), *look(), close()])

    def test_stays_the_same(self):
        handed = list(self.LINE)
        answers(handed)
        self.assertEqual(handed, self.LINE)

    def test_is_not_changed_for_a_while_either(self):
        class Watched(list):
            """A list that refuses every change."""

        def refuse(*_):
            raise AssertionError("changed")

        for name in ("append", "extend", "insert", "pop", "remove", "clear", "reverse", "sort", "__setitem__",
                     "__delitem__", "__iadd__", "__imul__"):
            setattr(Watched, name, refuse)
        self.assertEqual(answers(Watched(self.LINE)), answers(list(self.LINE)))

    def test_called_twice_answers_the_same_twice(self):
        first = answers(self.LINE)
        kept = list(first)
        second = answers(self.LINE)
        self.assertEqual(second, kept)
        self.assertEqual(first, kept)
        self.assertIsNot(first, second)

    def test_nothing_is_kept_for_another_line(self):
        answers(joined(EQUAL))
        self.assertEqual(run(begin(KEY), close(), member(KEY), member(KEYS[1])), [[-4], [-7], [0], [0]])

    def test_a_list_of_whole_numbers_is_given_back(self):
        answered = answers(self.LINE)
        self.assertIs(type(answered), list)
        self.assertEqual({type(number) for number in answered}, {int})


if __name__ == "__main__":
    unittest.main()
