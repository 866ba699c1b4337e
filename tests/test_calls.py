"""The ten calls at ordinary inputs."""

import unittest

from lossbook.house import answers
from tests.helper import all_shares, begin, change, close, house, last, layer, lose, member, recover, run, share, shares

# Rooms: 5, 4, 3, 8 (6 and 2), 16 (12 and 4), 8 (3 and 5), 4: 48 together.
HOUSE = [
    member(10, 5, 4, 9, 2),
    member(20, 7, 6, 3, 1),
    member(30, 1, 2, 5, 3),
    house(3, 4, 2),
]


class Answers(unittest.TestCase):
    def test_the_count_stands_ahead_of_each_answer(self):
        line = [0, 7, 5, 4, 9, 2, 3, 7, 4, 12, 9, 1, 8, 4, 7, 6]
        self.assertEqual(answers(line), [1, 0, 1, 0, 2, 9, 3, 3, 1, 7, 5, 1, -8, 3, 3, 0, 0])

    def test_shares_of_a_layer_without_bearers_is_one_number(self):
        self.assertEqual(answers([0, 7, 5, 4, 9, 2, 3, 7, 9, 4]), [1, 0, 1, 0, 1, 0])

    def test_one_call_alone(self):
        self.assertEqual(answers([6]), [1, -7])


class MemberAndHouse(unittest.TestCase):
    def test_they_answer_0(self):
        self.assertEqual(run(*HOUSE), [[0]] * 4)

    def test_what_they_set_is_seen_in_the_layers(self):
        seen = run(*HOUSE, begin(10), *[layer(k) for k in range(1, 8)])[5:]
        self.assertEqual(seen, [[5, 0], [4, 0], [3, 0], [8, 0], [16, 0], [8, 0], [4, 0]])

    def test_a_new_house_has_no_pieces_and_multiple_0(self):
        seen = run(member(1, 2, 3, 4, 5), member(2, 20, 30, 40, 50), begin(1), *[layer(k) for k in range(1, 8)])[3:]
        self.assertEqual(seen, [[2, 0], [3, 0], [0, 0], [30, 0], [0, 0], [40, 0], [0, 0]])

    def test_house_again_sets_all_three_anew(self):
        seen = run(*HOUSE, house(1, 0, 0), begin(10), layer(3), layer(5), layer(7))[4:]
        self.assertEqual(seen, [[0], [0], [1, 0], [0, 0], [0, 0]])

    def test_the_defaulters_weight_plays_no_part_in_its_own_layers(self):
        for weight in (0, 1, 1000000):
            seen = run(member(1, 5, 4, 0, weight), begin(1), lose(7), share(1, 1), share(2, 1))[2:]
            self.assertEqual(seen, [[7, 0], [5], [2]])


class Change(unittest.TestCase):
    def test_margin(self):
        self.assertEqual(run(*HOUSE, change(10, 1, 50), begin(10), layer(1), layer(2))[4:], [[0], [0], [50, 0], [4, 0]])

    def test_part_of_the_fund(self):
        seen = run(*HOUSE, change(20, 2, 60), begin(10), layer(4), layer(5), layer(6))[4:]
        self.assertEqual(seen, [[0], [0], [62, 0], [124, 0], [8, 0]])

    def test_gain(self):
        seen = run(*HOUSE, change(20, 3, 60), begin(10), layer(4), layer(5), layer(6))[4:]
        self.assertEqual(seen, [[0], [0], [8, 0], [16, 0], [65, 0]])

    def test_weight(self):
        before = run(*HOUSE, begin(10), lose(14), shares(4))[5:]
        after = run(*HOUSE, change(20, 4, 7), begin(10), lose(14), shares(4))[6:]
        self.assertEqual(before, [[14, 0], [2, 20, 0, 30, 2]])
        self.assertEqual(after, [[14, 0], [2, 20, 2, 30, 0]])

    def test_of_the_defaulter_to_be(self):
        self.assertEqual(last(*HOUSE, change(10, 2, 77), begin(10), layer(2)), [77, 0])

    def test_only_the_one_member_changes(self):
        seen = run(*HOUSE, change(30, 2, 100), begin(20), layer(2), layer(4))[6:]
        self.assertEqual(seen, [[6, 0], [104, 0]])


class Event(unittest.TestCase):
    def test_begins_with_a_loss_of_0(self):
        self.assertEqual(run(*HOUSE, begin(10), *all_shares())[4:], [
            [0], [1, 10, 0], [1, 10, 0], [1, 0, 0], [2, 20, 0, 30, 0], [2, 20, 0, 30, 0], [2, 20, 0, 30, 0], [1, 0, 0]])

    def test_lose_tells_what_is_borne_of_these_units_and_uncovered_of_all(self):
        seen = run(*HOUSE, begin(10), lose(40), lose(10), lose(5))[5:]
        self.assertEqual(seen, [[40, 0], [8, 2], [0, 7]])

    def test_lose_up_to_the_last_covered_unit(self):
        self.assertEqual(run(*HOUSE, begin(10), lose(48), lose(1))[5:], [[48, 0], [0, 1]])

    def test_recover_tells_what_is_uncovered_less_then_borne_less(self):
        seen = run(*HOUSE, begin(10), lose(55), recover(3), recover(6), recover(46))[6:]
        self.assertEqual(seen, [[3, 0], [4, 2], [0, 46]])

    def test_after_all_is_got_back_nothing_is_borne(self):
        self.assertEqual(run(*HOUSE, begin(10), lose(55), recover(55), *all_shares())[7:],
                         run(*HOUSE, begin(10), *all_shares())[5:])

    def test_shares_of_a_loss_in_the_midst(self):
        # 12 in layers 1 to 3, 8 in layer 4; in layer 5, of 12, member 30 gets its 4 (3 of 4 units at first).
        seen = run(*HOUSE, begin(10), lose(32), *all_shares())[6:]
        self.assertEqual(seen, [
            [1, 10, 5], [1, 10, 4], [1, 0, 3], [2, 20, 6, 30, 2], [2, 20, 8, 30, 4], [2, 20, 0, 30, 0], [1, 0, 0]])

    def test_layer_tells_room_and_what_is_borne(self):
        seen = run(*HOUSE, begin(10), lose(32), *[layer(k) for k in range(1, 8)])[6:]
        self.assertEqual(seen, [[5, 5], [4, 4], [3, 3], [8, 8], [16, 12], [8, 0], [4, 0]])

    def test_share_tells_one_bearers(self):
        calls = [share(1, 10), share(2, 10), share(3, 0), share(4, 20), share(4, 30), share(5, 20), share(6, 30)]
        self.assertEqual(run(*HOUSE, begin(10), lose(32), *calls, share(7, 0))[6:],
                         [[5], [4], [3], [6], [2], [8], [0], [0]])

    def test_of_another_member_has_other_layers(self):
        seen = run(*HOUSE, begin(30), lose(5), *all_shares())[6:]
        self.assertEqual(seen, [
            [1, 30, 1], [1, 30, 2], [1, 0, 2], [2, 10, 0, 20, 0], [2, 10, 0, 20, 0], [2, 10, 0, 20, 0], [1, 0, 0]])

    def test_an_ordinary_close(self):
        self.assertEqual(last(*HOUSE, begin(10), lose(7), close()), [0, 0, 2])
        self.assertEqual(last(*HOUSE, begin(10), lose(3), close()), [0, 2, 4])
        self.assertEqual(last(*HOUSE, begin(10), lose(50), close()), [2, 0, 0])


if __name__ == "__main__":
    unittest.main()
