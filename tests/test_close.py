"""What close changes, one thing after another, as the next event shows it; what heaps shows stands in test_looks."""

import unittest

from tests.helper import (begin, change, close, house, last, layer, look, lose, member, recover, run, share, shares)

# Rooms: 5, 4, 3, 8 (6 and 2), 16 (12 and 4), 8 (3 and 5), 4: 48 together.
HOUSE = [
    member(10, 5, 4, 9, 2),
    member(20, 7, 6, 3, 1),
    member(30, 1, 2, 5, 3),
    house(3, 4, 2),
    begin(10),
]


def after_close(loss, *calls):
    ahead = HOUSE + ([lose(loss)] if loss else []) + [close()]
    return run(*ahead, *calls)[len(ahead):]


class Answer(unittest.TestCase):
    def test_uncovered_then_what_is_left_of_margin_and_fund(self):
        expected = {1: [0, 4, 4], 5: [0, 0, 4], 6: [0, 0, 3], 9: [0, 0, 0], 48: [0, 0, 0], 49: [1, 0, 0]}
        for loss, answered in expected.items():
            with self.subTest(loss=loss):
                self.assertEqual(last(*HOUSE, lose(loss), close()), answered)

    def test_a_loss_of_0(self):
        self.assertEqual(last(*HOUSE, close()), [0, 5, 4])
        self.assertEqual(last(*HOUSE, lose(60), recover(60), close()), [0, 5, 4])

    def test_no_event(self):
        self.assertEqual(last(close()), [-7])
        self.assertEqual(last(*HOUSE, close(), close()), [-7])


class EventIsOver(unittest.TestCase):
    def test_what_wants_an_event_is_refused(self):
        seen = after_close(13, lose(1), recover(1), close(), layer(1), share(1, 10), shares(4))
        self.assertEqual(seen, [[-7]] * 6)

    def test_what_wants_none_is_not(self):
        self.assertEqual(after_close(13, member(40), house(1, 1, 1), change(20, 1, 1), begin(20)), [[0]] * 4)

    def test_the_next_event_begins_with_a_loss_of_0(self):
        seen = after_close(13, begin(20), layer(1), recover(1), lose(1))
        self.assertEqual(seen, [[0], [7, 0], [-6], [1, 0]])


class DefaulterIsGone(unittest.TestCase):
    def test_it_is_no_member_any_more(self):
        for loss in (0, 3, 13, 60):
            with self.subTest(loss=loss):
                self.assertEqual(after_close(loss, change(10, 1, 1), begin(10)), [[-4], [-4]])

    def test_it_bears_nothing_of_the_next_event(self):
        self.assertEqual(after_close(0, begin(20), shares(4), share(4, 10))[1:], [[1, 30, 0], [-8]])

    def test_its_margin_part_and_gain_go_with_it(self):
        seen = after_close(3, begin(20), *[layer(k) for k in range(1, 8)])[1:]
        self.assertEqual(seen, [[7, 0], [6, 0], [3, 0], [2, 0], [4, 0], [5, 0], [4, 0]])

    def test_a_new_member_may_have_its_key(self):
        seen = after_close(3, member(10, 50, 40, 90, 1), begin(10), layer(1), layer(2))
        self.assertEqual(seen, [[0], [0], [50, 0], [40, 0]])

    def test_a_new_member_of_its_key_bears_with_the_others(self):
        seen = after_close(3, member(10, 50, 40, 90, 1), begin(20), shares(4))
        self.assertEqual(seen[2], [2, 10, 0, 30, 0])


class OthersPay(unittest.TestCase):
    def test_their_parts_by_layer_4(self):
        # 12 units go ahead; of 5 in layer 4 member 30 gets its 2, member 20 has 3.
        self.assertEqual(after_close(17, begin(20), layer(2), layer(4), layer(5))[1:], [[3, 0], [0, 0], [0, 0]])
        self.assertEqual(after_close(13, begin(20), layer(2), layer(4), layer(5))[1:], [[6, 0], [1, 0], [2, 0]])

    def test_their_gains_by_layer_6(self):
        # 36 units go ahead; of 4 in layer 6 member 30 gets 3, of 5 it gets 3, of 6 it gets 4.
        for units, left_20, left_30 in ((0, 3, 5), (4, 2, 2), (5, 2, 1), (8, 0, 0)):
            with self.subTest(units=units):
                self.assertEqual(after_close(36 + units, begin(20), layer(6))[1:], [[left_30, 0]])
                self.assertEqual(after_close(36 + units, begin(30), layer(6))[1:], [[left_20, 0]])

    def test_their_margins_and_weights_stay(self):
        seen = after_close(60, begin(20), layer(1))[1:]
        self.assertEqual(seen, [[7, 0]])
        seen = after_close(60, change(20, 2, 9), change(30, 2, 9), member(1), begin(1), lose(4), shares(4))
        self.assertEqual(seen[-1], [2, 20, 1, 30, 3])

    def test_calls_on_them_take_nothing_from_what_they_hold(self):
        seen = after_close(22, begin(30), *[layer(k) for k in range(1, 8)])[1:]
        self.assertEqual(seen, [[1, 0], [0, 0], [0, 0], [0, 0], [0, 0], [3, 0], [4, 0]])


class HousePays(unittest.TestCase):
    def test_its_first_piece_by_layer_3(self):
        for loss, left in ((0, 3), (9, 3), (10, 2), (12, 0), (30, 0)):
            with self.subTest(loss=loss):
                self.assertEqual(after_close(loss, begin(20), layer(3))[1:], [[left, 0]])

    def test_its_last_piece_by_layer_7(self):
        for loss, left in ((0, 4), (44, 4), (45, 3), (48, 0), (60, 0)):
            with self.subTest(loss=loss):
                self.assertEqual(after_close(loss, begin(20), layer(7))[1:], [[left, 0]])

    def test_its_multiple_stays(self):
        self.assertEqual(after_close(60, change(30, 2, 7), begin(20), layer(5))[2:], [[14, 0]])


class Again(unittest.TestCase):
    def test_with_a_loss_of_0_only_the_defaulter_goes(self):
        without = run(member(20, 7, 6, 3, 1), member(30, 1, 2, 5, 3), house(3, 4, 2), begin(20), lose(20), *look())
        self.assertEqual(after_close(0, begin(20), lose(20), *look()), without[3:])

    def test_event_after_event_until_nobody_is_left(self):
        seen = run(*HOUSE, lose(50), close(), begin(30), lose(2), close(), begin(20), *[layer(k) for k in range(1, 8)],
                   close(), begin(20), member(20), begin(20))[6:]
        self.assertEqual(seen, [
            [2, 0, 0], [0], [1, 1], [1, 0, 0],
            [0], [7, 0], [0, 0], [0, 0], [0, 0], [0, 0], [0, 0], [0, 0],
            [0, 7, 0], [-4], [0], [0]])

    def test_twelve_members_and_a_thirteenth(self):
        twelve = [member(key, 1, 1, 1, 1) for key in range(12, 0, -1)]
        seen = run(*twelve, member(13), begin(6), shares(4), close(), member(13), member(14), begin(13), shares(4))[11:]
        others = [1, 2, 3, 4, 5, 7, 8, 9, 10, 11, 12]
        listed = [11] + [number for key in others for number in (key, 0)]
        self.assertEqual(seen, [[0], [-9], [0], listed, [0, 1, 1], [0], [-9], [0], listed])


if __name__ == "__main__":
    unittest.main()
