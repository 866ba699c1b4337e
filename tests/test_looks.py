"""The calls person to fair at ordinary inputs, and what heaps and members tell of a house in each of its states."""

import unittest

from lossbook.house import answers
from tests.helper import (at, begin, between, change, check, close, fair, heaps, house, joined, last, lose, member,
                          members, next_unit, person, recover, run, until, who)

# Rooms: 5, 4, 3, 8 (6 and 2), 16 (12 and 4), 8 (3 and 5), 4: 48 together.
# Units 13 to 20 are 30, 30 and six times 20; units 21 to 36 are 30, 30, 20, 30, 30 and eleven times 20;
# units 37 to 44 are 30, 30, 20, 30, 30, 30, 20, 20: at 1/1 member 20 comes ahead of member 30 at 3/3.
HOUSE = [
    member(30, 1, 2, 5, 3),
    member(10, 5, 4, 9, 2),
    member(20, 7, 6, 3, 1),
    house(3, 4, 2),
]
EVENT = HOUSE + [begin(10)]


def seen(loss, *calls):
    ahead = EVENT + ([lose(loss)] if loss else [])
    return run(*ahead, *calls)[len(ahead):]


class CountedAhead(unittest.TestCase):
    def check_line(self, call, answered):
        ahead = joined(EVENT + [lose(32)])
        self.assertEqual(answers(ahead + call), [1, 0, 1, 0, 1, 0, 1, 0, 1, 0, 2, 32, 0] + answered)

    def test_each_call_has_its_count_and_then_its_numbers(self):
        self.check_line([10, 20], [1, 14])
        self.check_line([11, 13], [2, 4, 30])
        self.check_line([12, 15, 4, 20], [1, 1])
        self.check_line([13, 4, 20, 1], [1, 15])
        self.check_line([14], [2, 5, 20])
        self.check_line([15, 12, 20, 4, 20], [1, 6])
        self.check_line([16, 4, 3, 2, 1, 2], [1, 1])
        self.check_line([17], [7, 13, 12, 17, 3, 4, 0, 0])
        self.check_line([18], [4, 3, 10, 20, 30])
        self.check_line([19, 4, 30], [2, 2, 6])

    def test_refusals_are_one_number(self):
        for call, refusal in (([10, 99], -4), ([11, 0], -1), ([12, 1, 1, 20], -8), ([13, 1, 10, 6], -3),
                              ([15, 2, 1, 1, 10], -1), ([16, 8, 0, 0], -1), ([19, 3, 10], -8)):
            self.check_line(call, [1, refusal])
        self.assertEqual(answers([14]), [1, -7])

    def test_a_call_behind_each_length_of_a_list_is_found(self):
        for length in range(21):
            with self.subTest(length=length):
                line = joined(EVENT) + [16, 1, 0, length] + [18] * length + [18]
                self.assertEqual(answers(line)[10:], [1, 0 if length <= 12 else -1, 4, 3, 10, 20, 30])

    def test_lists_one_behind_another(self):
        line = joined(EVENT) + [16, 1, 0, 1, 0, 16, 3, 2, 1, 2, 16, 4, 0, 0, 16, 4, 0, 2, 0, 0]
        self.assertEqual(answers(line)[10:], [1, 1, 1, 1, 1, 0, 1, 1])


class Person(unittest.TestCase):
    def test_a_member_that_bears_in_several_layers(self):
        self.assertEqual(seen(15, person(20), person(30)), [[1], [2]])
        # In layer 5, of 12, member 30 has its 4; in layer 6, of 6, it has its 5.
        self.assertEqual(seen(32, person(20), person(30)), [[6 + 8], [2 + 4]])
        self.assertEqual(seen(42, person(20), person(30)), [[6 + 12 + 1], [2 + 4 + 5]])
        self.assertEqual(seen(60, person(20), person(30)), [[6 + 12 + 3], [2 + 4 + 5]])

    def test_the_defaulter(self):
        for loss, borne in ((0, 0), (3, 3), (5, 5), (7, 7), (9, 9), (10, 9), (60, 9)):
            self.assertEqual(seen(loss, person(10)), [[borne]])

    def test_the_house(self):
        for loss, borne in ((0, 0), (9, 0), (10, 1), (12, 3), (44, 3), (45, 4), (48, 7), (49, 7), (60, 7)):
            self.assertEqual(seen(loss, person(0)), [[borne]])

    def test_all_persons_together_bear_what_is_covered(self):
        for loss in range(1, 60):
            told = seen(loss, person(0), person(10), person(20), person(30))
            self.assertEqual(sum(borne for borne, in told), min(loss, 48))

    def test_no_such_member(self):
        self.assertEqual(seen(60, person(40), person(1), person(9)), [[-4], [-4], [-4]])
        self.assertEqual(last(*EVENT, close(), begin(20), person(10)), [-4])


class UnitsAndLosses(unittest.TestCase):
    def test_who(self):
        told = seen(0, *[who(u) for u in (1, 5, 6, 9, 10, 12, 13, 14, 15, 20, 21, 23, 24, 36, 37, 44, 45, 48, 49)])
        self.assertEqual(told, [
            [1, 10], [1, 10], [2, 10], [2, 10], [3, 0], [3, 0], [4, 30], [4, 30], [4, 20], [4, 20], [5, 30], [5, 20],
            [5, 30], [5, 20], [6, 30], [6, 20], [7, 0], [7, 0], [8, 0]])

    def test_who_is_the_same_whether_the_loss_is_so_great_or_not(self):
        calls = [who(u) for u in range(1, 52)]
        for loss in (1, 14, 36, 48, 49, 100):
            self.assertEqual(seen(loss, *calls), seen(0, *calls))

    def test_next(self):
        for loss, unit in ((0, [1, 10]), (4, [1, 10]), (5, [2, 10]), (9, [3, 0]), (12, [4, 30]), (14, [4, 20]),
                           (20, [5, 30]), (36, [6, 30]), (44, [7, 0]), (47, [7, 0]), (48, [8, 0]), (49, [8, 0])):
            self.assertEqual(seen(loss, next_unit()), [unit])

    def test_next_goes_back_with_what_is_got_back(self):
        self.assertEqual(run(*EVENT, lose(20), next_unit(), recover(6), next_unit(), recover(14), next_unit())[6::2],
                         [[5, 30], [4, 20], [1, 10]])

    def test_at(self):
        told = seen(3, *[at(n, 4, 20) for n in (0, 12, 14, 15, 19, 20, 21, 1000)])
        self.assertEqual(told, [[0], [0], [0], [1], [5], [6], [6], [6]])
        self.assertEqual(seen(3, at(0, 1, 10), at(4, 1, 10), at(5, 1, 10), at(7, 2, 10), at(11, 3, 0), at(47, 7, 0)),
                         [[0], [4], [5], [2], [2], [3]])

    def test_until(self):
        told = seen(3, *[until(4, 20, m) for m in range(1, 8)], *[until(4, 30, m) for m in range(1, 4)])
        self.assertEqual(told, [[15], [16], [17], [18], [19], [20], [-3], [13], [14], [-3]])
        self.assertEqual(seen(3, until(1, 10, 5), until(2, 10, 1), until(3, 0, 3), until(5, 20, 1), until(7, 0, 4)),
                         [[5], [6], [12], [23], [48]])

    def test_between(self):
        told = seen(3, *[between(a, b, 4, 20) for a, b in ((0, 0), (0, 1000), (14, 14), (14, 15), (14, 16), (15, 16),
                                                           (15, 20), (16, 21), (20, 21))])
        self.assertEqual(told, [[0], [6], [0], [1], [2], [1], [5], [4], [0]])

    def test_check(self):
        self.assertEqual(seen(3, check(4, 0, [0, 0]), check(4, 1, [0, 1]), check(4, 2, [0, 2]), check(4, 3, [1, 2]),
                              check(4, 8, [6, 2])), [[1]] * 5)
        self.assertEqual(seen(3, check(4, 1, [1, 0]), check(4, 2, [1, 1]), check(4, 2, [2, 0]), check(4, 8, [2, 6]),
                              check(4, 3, [0, 2])), [[0]] * 5)
        self.assertEqual(seen(3, check(1, 4, [4]), check(2, 4, [4]), check(3, 1, [1]), check(7, 0, [0])), [[1]] * 4)

    def test_check_hangs_on_the_layers_units_not_on_the_loss(self):
        calls = [check(k, n, given) for k in range(1, 8) for n in range(4) for given in ([n], [0, n], [n, 0], [])]
        for loss in (1, 13, 60):
            self.assertEqual(seen(loss, *calls), seen(0, *calls))

    def test_check_of_a_wrong_list(self):
        right = check(5, 9, [5, 4])
        self.assertEqual(seen(3, right), [[1]])
        for given in ([], [5], [5, 4, 0], [0, 5, 4], [4], [6, 4], [5, 5], [4, 4], [5, 3], [4, 5], [6, 3]):
            self.assertEqual(seen(3, check(5, 9, given)), [[0]], given)
        for n in (8, 10, 16):
            self.assertEqual(seen(3, check(5, n, [5, 4])), [[0]])

    def test_check_of_more_units_than_the_room(self):
        self.assertEqual(seen(60, check(4, 8, [6, 2]), check(4, 9, [6, 2]), check(4, 9, [6, 3]), check(4, 9, [7, 2]),
                              check(4, 10 ** 15, [6, 2]), check(1, 5, [5]), check(1, 6, [5]), check(1, 6, [6])),
                         [[1], [0], [0], [0], [0], [1], [0], [0]])

    def test_a_layer_without_bearers(self):
        alone = [member(10, 5, 4, 9, 2), house(3, 4, 2), begin(10)]
        for k in (4, 5, 6):
            self.assertEqual(run(*alone, check(k, 0, []), check(k, 1, []), check(k, 10 ** 15, []), check(k, 0, [0]),
                                 check(k, 0, [0, 0]), at(0, k, 10), until(k, 10, 1), between(0, 9, k, 10),
                                 fair(k, 10))[3:], [[1], [0], [0], [0], [0], [-8], [-8], [-8], [-8]])


class Fair(unittest.TestCase):
    def test_what_the_layer_bears_by_weights_rounded_down(self):
        # Of layer 4's weights 1 and 3 are 4 together; member 30 has at most 2.
        expected = {12: ([0, 0], [0, 0]), 13: ([0, 0], [1, 0]), 14: ([0, 0], [2, 1]), 15: ([1, 0], [2, 2]),
                    16: ([2, 1], [2, 3]), 19: ([5, 1], [2, 5]), 20: ([6, 2], [2, 6]), 60: ([6, 2], [2, 6])}
        for loss, (of_20, of_30) in expected.items():
            self.assertEqual(seen(loss, fair(4, 20), fair(4, 30)), [of_20, of_30], loss)

    def test_in_the_other_layers(self):
        self.assertEqual(seen(42, fair(1, 10), fair(2, 10), fair(3, 0), fair(5, 20), fair(5, 30), fair(6, 20),
                              fair(6, 30), fair(7, 0)),
                         [[5, 5], [4, 4], [3, 3], [12, 4], [4, 12], [1, 1], [5, 4], [0, 0]])

    def test_alone_in_a_layer_it_is_all(self):
        for loss in (0, 1, 4, 8, 11, 46):
            for told in seen(loss, fair(1, 10), fair(2, 10), fair(3, 0), fair(7, 0)):
                self.assertEqual(told[0], told[1])

    def test_the_weights_of_those_who_can_bear_nothing_count_too(self):
        ahead = [member(1), member(2, 0, 9, 0, 1), member(3, 0, 0, 0, 2), begin(1), lose(7)]
        self.assertEqual(run(*ahead, fair(4, 2), fair(4, 3))[5:], [[7, 2], [0, 4]])

    def test_weight_0_beside_others(self):
        ahead = [member(1), member(2, 0, 3, 0, 0), member(3, 0, 2, 0, 5), begin(1), lose(4)]
        self.assertEqual(run(*ahead, fair(4, 2), fair(4, 3))[5:], [[2, 0], [2, 4]])

    def test_it_is_0_if_the_sum_of_the_weights_is_0(self):
        ahead = [member(1), member(2, 0, 3, 0, 0), member(3, 0, 2, 0, 0), begin(1), lose(4)]
        self.assertEqual(run(*ahead, fair(4, 2), fair(4, 3))[5:], [[2, 0], [2, 0]])


class Held(unittest.TestCase):
    def test_a_new_house(self):
        self.assertEqual(run(heaps(), members()), [[0] * 7, [0]])
        self.assertEqual(answers([18, 17]), [1, 0, 7, 0, 0, 0, 0, 0, 0, 0])

    def test_no_members_but_pieces(self):
        self.assertEqual(run(house(3, 4, 2), heaps(), members())[1:], [[0, 0, 0, 3, 4, 0, 0], [0]])

    def test_sums_of_all_members_and_their_keys_rising(self):
        self.assertEqual(run(*HOUSE, heaps(), members())[4:], [[13, 12, 17, 3, 4, 0, 0], [3, 10, 20, 30]])

    def test_what_was_changed_is_seen(self):
        told = run(*HOUSE, change(10, 1, 100), change(20, 2, 200), change(30, 3, 300), change(30, 4, 9),
                   house(7, 8, 9), heaps())
        self.assertEqual(told[-1], [108, 206, 312, 7, 8, 0, 0])

    def test_while_an_event_is_open_nothing_is_taken_yet(self):
        for loss in (0, 3, 20, 60):
            self.assertEqual(seen(loss, heaps(), members()), [[13, 12, 17, 3, 4, 0, 0], [3, 10, 20, 30]])

    def test_behind_a_close(self):
        expected = {
            0: [8, 8, 8, 3, 4, 0, 0],
            7: [8, 8, 8, 3, 4, 0, 0],
            11: [8, 8, 8, 1, 4, 0, 0],
            15: [8, 5, 8, 0, 4, 0, 0],
            32: [8, 0, 8, 0, 4, 12, 0],
            42: [8, 0, 2, 0, 4, 16, 0],
            47: [8, 0, 0, 0, 1, 16, 0],
            48: [8, 0, 0, 0, 0, 16, 0],
            60: [8, 0, 0, 0, 0, 16, 12],
        }
        for loss, held in expected.items():
            with self.subTest(loss=loss):
                self.assertEqual(seen(loss, close(), heaps(), members())[1:], [held, [2, 20, 30]])

    def test_behind_the_last_members_close(self):
        alone = [member(1, 2, 3, 4, 5), house(1, 2, 3), begin(1), lose(10)]
        self.assertEqual(run(*alone, close(), heaps(), members())[4:], [[2, 0, 0], [0, 0, 0, 0, 0, 0, 2], [0]])

    def test_what_was_called_and_what_stayed_unpaid_add_up(self):
        three = [member(key, 1, 2, 3, 1) for key in (1, 2, 3)]
        # At first layers 1 to 5 have 1, 2, 1, 4 and 8; then layers 1 to 7 have 1, 0, 0, 5, 10, 3 and 1.
        told = run(*three, house(1, 1, 2), begin(1), lose(1 + 2 + 1 + 4 + 7), close(), heaps(), member(4, 0, 5, 0, 1),
                   begin(2), lose(1000), heaps(), close(), heaps(), begin(3), lose(5), close(), heaps(), members())[6:]
        self.assertEqual(told, [
            [0, 0, 0], [2, 0, 6, 0, 1, 7, 0], [0],
            [0], [20, 980], [2, 5, 6, 0, 1, 7, 0], [980, 0, 0], [1, 0, 0, 0, 0, 17, 980],
            [0], [1, 4], [4, 0, 0], [0, 0, 0, 0, 0, 17, 984], [1, 4]])


if __name__ == "__main__":
    unittest.main()
