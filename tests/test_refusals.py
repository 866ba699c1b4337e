"""Each refusal of each call: the edges of the ranges, which one is told first, and that nothing changes."""

import unittest

from tests.helper import (ARGUMENT, KEY, LOSS, MONEY, MULTIPLE, WEIGHT, begin, change, close, house, last, layer, look,
                          lose, member, recover, run, share, shares)

TWO = [member(10, 5, 4, 9, 2), member(20, 7, 6, 3, 1), house(3, 4, 2)]
TWELVE = [member(key, 2, 3, 4, key) for key in range(1, 13)]
EVENT = TWO + [begin(10), lose(14)]

# A good call, then for each of its arguments the least and the greatest that is not refused by -1.
RANGES = [
    (TWO, member(30, 1, 1, 1, 1), [(1, KEY), (0, MONEY), (0, MONEY), (0, MONEY), (0, WEIGHT)]),
    (TWO, house(1, 1, 1), [(0, MONEY), (0, MONEY), (0, MULTIPLE)]),
    (TWO, change(10, 1, 1), [(1, KEY), (1, 4), (0, MONEY)]),
    (TWO, change(10, 2, 1), [(1, KEY), (1, 4), (0, MONEY)]),
    (TWO, change(10, 3, 1), [(1, KEY), (1, 4), (0, MONEY)]),
    (TWO, change(10, 4, 1), [(1, KEY), (1, 4), (0, WEIGHT)]),
    (TWO, begin(10), [(1, KEY)]),
    (TWO + [begin(10)], lose(1), [(1, LOSS)]),
    (TWO + [begin(10), lose(LOSS)], recover(1), [(1, LOSS)]),
    (EVENT, layer(1), [(1, 7)]),
    (EVENT, share(1, 10), [(1, 7), (0, KEY)]),
    (EVENT, shares(1), [(1, 7)]),
]


def with_argument(call, place, number):
    return call[:place + 1] + [number] + call[place + 2:]


class Ranges(unittest.TestCase):
    def edges(self):
        for ahead, call, ranges in RANGES:
            self.assertEqual(len(call), len(ranges) + 1)
            for place, (least, greatest) in enumerate(ranges):
                yield ahead, call, place, least, greatest

    def test_the_first_numbers_outside_are_refused(self):
        for ahead, call, place, least, greatest in self.edges():
            for number in (least - 1, greatest + 1, -1, -ARGUMENT, ARGUMENT):
                with self.subTest(call=call, place=place, number=number):
                    self.assertEqual(last(*ahead, with_argument(call, place, number)), [-1])

    def test_the_last_numbers_within_are_not(self):
        for ahead, call, place, least, greatest in self.edges():
            for number in (least, greatest):
                with self.subTest(call=call, place=place, number=number):
                    self.assertNotEqual(last(*ahead, with_argument(call, place, number)), [-1])

    def test_a_member_at_all_the_edges(self):
        self.assertEqual(run(member(1, 0, 0, 0, 0), member(KEY, MONEY, MONEY, MONEY, WEIGHT)), [[0], [0]])

    def test_a_house_at_all_the_edges(self):
        self.assertEqual(run(house(0, 0, 0), house(MONEY, MONEY, MULTIPLE)), [[0], [0]])

    def test_a_weight_has_a_range_of_its_own_where_it_is_changed(self):
        calls = [change(10, what, WEIGHT + 1) for what in (1, 2, 3, 4)]
        self.assertEqual(run(*TWO, *calls)[3:], [[0], [0], [0], [-1]])


class Refusals(unittest.TestCase):
    def test_member_that_is_there(self):
        self.assertEqual(last(*TWO, member(20)), [-2])

    def test_a_thirteenth_member(self):
        self.assertEqual(run(*TWELVE, member(13))[11:], [[0], [-9]])

    def test_none_of_the_changing_calls_while_an_event_is_open(self):
        calls = [member(30), house(1, 1, 1), change(20, 1, 1), begin(20), begin(10)]
        self.assertEqual(run(*EVENT, *calls)[5:], [[-5]] * 5)

    def test_no_such_member(self):
        self.assertEqual(run(*TWO, change(30, 1, 1), begin(30))[3:], [[-4], [-4]])

    def test_loss_above_the_greatest(self):
        seen = run(*TWO, begin(10), lose(LOSS - 2), lose(3), lose(2), lose(1), lose(LOSS))[4:]
        self.assertEqual(seen, [[37, LOSS - 39], [-6], [0, LOSS - 37], [-6], [-6]])

    def test_loss_below_0(self):
        seen = run(*TWO, begin(10), recover(1), lose(2), recover(3), recover(2), recover(1))[4:]
        self.assertEqual(seen, [[-6], [2, 0], [-6], [0, 2], [-6]])

    def test_no_event_is_open(self):
        calls = [lose(1), recover(1), close(), layer(1), share(1, 10), shares(1)]
        self.assertEqual(run(*TWO, *calls)[3:], [[-7]] * 6)
        self.assertEqual(run(*EVENT, close(), *calls)[6:], [[-7]] * 6)
        self.assertEqual(run(*calls), [[-7]] * 6)

    def test_no_bearer_of_that_key_in_that_layer(self):
        for k in range(1, 8):
            bearers = {1: [10], 2: [10], 3: [0], 4: [20], 5: [20], 6: [20], 7: [0]}[k]
            for key in (0, 10, 20, 30, KEY):
                with self.subTest(k=k, key=key):
                    answered = last(*EVENT, share(k, key))
                    self.assertEqual(answered == [-8], key not in bearers)

    def test_no_bearers_at_all(self):
        seen = run(member(10), begin(10), *[share(k, key) for k in (4, 5, 6) for key in (0, 10)])[2:]
        self.assertEqual(seen, [[-8]] * 6)


class ToldFirst(unittest.TestCase):
    def check(self, ahead, call, refusal):
        with self.subTest(call=call):
            self.assertEqual(last(*ahead, call), [refusal])

    def test_member(self):
        full = TWELVE + [begin(1)]
        self.check(full, member(0), -1)
        self.check(full, member(2, 0, 0, 0, WEIGHT + 1), -1)
        self.check(TWO, member(20, -1), -1)
        self.check(TWELVE, member(13, -1), -1)
        self.check(full, member(2), -5)
        self.check(full, member(1), -5)
        self.check(full, member(13), -5)
        self.check(TWELVE, member(12), -2)
        self.check(TWELVE, member(13), -9)

    def test_house(self):
        self.check(EVENT, house(-1, 0, 0), -1)
        self.check(EVENT, house(0, MONEY + 1, 0), -1)
        self.check(EVENT, house(0, 0, 11), -1)

    def test_change(self):
        self.check(EVENT, change(0, 1, 1), -1)
        self.check(EVENT, change(30, 5, 1), -1)
        self.check(TWO, change(30, 0, 1), -1)
        self.check(TWO, change(30, 4, WEIGHT + 1), -1)
        self.check(EVENT, change(30, 1, 1), -5)

    def test_open(self):
        self.check(EVENT, begin(0), -1)
        self.check(EVENT, begin(KEY + 1), -1)
        self.check(EVENT, begin(30), -5)

    def test_lose_and_recover(self):
        for call in (lose(0), lose(LOSS + 1), recover(0), recover(LOSS + 1)):
            self.check(TWO, call, -1)
            self.check(EVENT, call, -1)
        self.check(TWO, recover(1), -7)
        self.check(TWO, lose(LOSS), -7)

    def test_looks(self):
        for call in (layer(0), layer(8), share(0, 10), share(8, 10), share(1, -1), share(1, KEY + 1), shares(0),
                     shares(8)):
            self.check(TWO, call, -1)
            self.check(EVENT, call, -1)
        self.check(TWO, share(1, 30), -7)
        self.check(TWO, share(3, 10), -7)


class NothingChanges(unittest.TestCase):
    def check(self, ahead, refused, behind):
        """Behind the refused call all is as if it hadn't been."""
        without = run(*ahead, *behind)
        for call, refusal in refused:
            with self.subTest(call=call):
                seen = run(*ahead, call, *behind)
                self.assertEqual(seen.pop(len(ahead)), [refusal])
                self.assertEqual(seen, without)

    def test_while_no_event_is_open(self):
        refused = [(member(20, 9, 9, 9, 9), -2), (member(30, 9, 9, 9, WEIGHT + 1), -1), (member(0, 9, 9, 9, 9), -1),
                   (house(9, 9, 11), -1), (house(MONEY + 1, 9, 9), -1), (change(30, 2, 9), -4),
                   (change(20, 2, MONEY + 1), -1), (change(20, 5, 9), -1), (change(20, 0, 9), -1),
                   (change(20, 4, WEIGHT + 1), -1), (begin(30), -4), (begin(0), -1), (lose(9), -7), (recover(9), -7),
                   (close(), -7), (layer(1), -7), (share(1, 10), -7), (shares(1), -7)]
        behind = [member(30, 1, 2, 3, 4), begin(20), *look(), lose(25), *look(), close(), begin(10), *look()]
        self.check(TWO, refused, behind)

    def test_while_an_event_is_open(self):
        refused = [(member(30, 9, 9, 9, 9), -5), (member(10, 9, 9, 9, 9), -5), (house(9, 9, 9), -5),
                   (change(10, 1, 99), -5), (change(20, 2, 99), -5), (change(20, 3, 99), -5), (change(20, 4, 0), -5),
                   (begin(20), -5), (begin(10), -5), (lose(0), -1), (lose(LOSS), -6), (lose(LOSS - 13), -6),
                   (recover(0), -1), (recover(15), -6), (recover(LOSS), -6), (layer(0), -1), (share(1, 20), -8),
                   (shares(8), -1)]
        behind = [*look(), recover(2), *look(), lose(7), *look(), close(), begin(20), *look(), close(), member(30),
                  begin(30), *look()]
        self.check(EVENT, refused, behind)

    def test_with_twelve_members(self):
        behind = [begin(1), *look(), lose(40), *look(), close(), member(13, 5, 5, 5, 5), begin(13), *look()]
        self.check(TWELVE, [(member(13, 9, 9, 9, 9), -9), (member(12, 9, 9, 9, 9), -2)], behind)

    def test_the_looks_themselves_change_nothing(self):
        behind = [*look(), recover(2), *look(), close(), begin(20), *look()]
        for call in look() + [share(4, 20)]:
            with self.subTest(call=call):
                seen = run(*EVENT, call, *behind)
                seen.pop(len(EVENT))
                self.assertEqual(seen, run(*EVENT, *behind))


if __name__ == "__main__":
    unittest.main()
