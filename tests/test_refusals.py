"""Each refusal of each call: the edges of the ranges, which one is told first, and that nothing changes."""

import unittest

from tests.helper import (ARGUMENT, KEY, LOSS, MONEY, MULTIPLE, WEIGHT, at, begin, between, change, check, close, fair,
                          heaps, house, last, layer, look, look_closely, lose, member, members, next_unit, person,
                          recover, run, run_in_lines, share, shares, until, who)

TWO = [member(10, 5, 4, 9, 2), member(20, 7, 6, 3, 1), house(3, 4, 2)]
TWELVE = [member(key, 2, 3, 4, key) for key in range(1, 13)]
EVENT = TWO + [begin(10), lose(14)]

# A good call, then for each of its arguments the least and the greatest that is not refused by -1.
RANGES = [
    (TWO, member(30, 1, 1, 1, 1), [(1, KEY), (0, MONEY), (0, MONEY), (0, MONEY), (0, WEIGHT)]),
    (TWO, house(1, 1, 1), [(0, MONEY), (0, MONEY), (0, MULTIPLE)]),
    (TWO, change(10, 1, 1), [(1, KEY), (1, 4), (0, MONEY)]),
    (TWO, change(10, 2, 1), [(1, KEY), (1, 4), (0, MONEY)]),
    (TWO, change(10, 3, 1), [(1, KEY), (1, 4), (0, MONEY)]),
    (TWO, change(10, 4, 1), [(1, KEY), (1, 4), (0, WEIGHT)]),
    (TWO, begin(10), [(1, KEY)]),
    (TWO + [begin(10)], lose(1), [(1, LOSS)]),
    (TWO + [begin(10), lose(LOSS)], recover(1), [(1, LOSS)]),
    (EVENT, layer(1), [(1, 7)]),
    (EVENT, share(1, 10), [(1, 7), (0, KEY)]),
    (EVENT, shares(1), [(1, 7)]),
    (EVENT, person(10), [(0, KEY)]),
    (EVENT, who(1), [(1, LOSS)]),
    (EVENT, at(1, 1, 10), [(0, LOSS), (1, 7), (0, KEY)]),
    (EVENT, until(1, 10, 1), [(1, 7), (0, KEY), (1, LOSS)]),
    (EVENT, between(0, LOSS, 1, 10), [(0, LOSS), (0, LOSS), (1, 7), (0, KEY)]),
    (EVENT, between(7, 8, 1, 10), [(0, 8), (7, LOSS), (1, 7), (0, KEY)]),
    (EVENT, between(LOSS, LOSS, 4, 20), [(0, LOSS), (LOSS, LOSS), (1, 7), (0, KEY)]),
    (EVENT, between(0, 0, 4, 20), [(0, 0), (0, LOSS), (1, 7), (0, KEY)]),
    (EVENT, fair(1, 10), [(1, 7), (0, KEY)]),
]
# check's third number is its list's length, so the others have tests of their own.
LONGEST_LIST = 12


def with_argument(call, place, number):
    return call[:place + 1] + [number] + call[place + 2:]


class Ranges(unittest.TestCase):
    def edges(self):
        for ahead, call, ranges in RANGES:
            self.assertEqual(len(call), len(ranges) + 1)
            for place, (least, greatest) in enumerate(ranges):
                yield ahead, call, place, least, greatest

    def test_the_first_numbers_outside_are_refused(self):
        for ahead, call, place, least, greatest in self.edges():
            for number in (least - 1, greatest + 1, -1, -ARGUMENT, ARGUMENT):
                with self.subTest(call=call, place=place, number=number):
                    self.assertEqual(last(*ahead, with_argument(call, place, number)), [-1])

    def test_the_last_numbers_within_are_not(self):
        for ahead, call, place, least, greatest in self.edges():
            for number in (least, greatest):
                with self.subTest(call=call, place=place, number=number):
                    self.assertNotEqual(last(*ahead, with_argument(call, place, number)), [-1])

    def test_a_member_at_all_the_edges(self):
        self.assertEqual(run(member(1, 0, 0, 0, 0), member(KEY, MONEY, MONEY, MONEY, WEIGHT)), [[0], [0]])

    def test_a_house_at_all_the_edges(self):
        self.assertEqual(run(house(0, 0, 0), house(MONEY, MONEY, MULTIPLE)), [[0], [0]])

    def test_a_weight_has_a_range_of_its_own_where_it_is_changed(self):
        calls = [change(10, what, WEIGHT + 1) for what in (1, 2, 3, 4)]
        self.assertEqual(run(*TWO, *calls)[3:], [[0], [0], [0], [-1]])


class RangesOfCheck(unittest.TestCase):
    def check(self, k, n, given, answered):
        with self.subTest(k=k, n=n, given=given):
            self.assertEqual(last(*EVENT, check(k, n, given)), [answered])

    def test_the_layer(self):
        for k in (-ARGUMENT, -1, 0, 8, ARGUMENT):
            self.check(k, 0, [0], -1)
        for k in range(1, 8):
            self.check(k, 0, [0], 1)

    def test_the_number_of_units(self):
        for n in (-ARGUMENT, -1, LOSS + 1, ARGUMENT):
            self.check(1, n, [0], -1)
        self.check(1, 0, [0], 1)
        self.check(1, LOSS, [0], 0)

    def test_the_length_of_the_list(self):
        for length in range(LONGEST_LIST + 1):
            self.check(4, 0, [0] * length, 1 if length == 1 else 0)
        for length in range(LONGEST_LIST + 1, 21):
            self.check(4, 0, [0] * length, -1)

    def test_each_number_of_the_list(self):
        for length in (1, 2, LONGEST_LIST):
            for place in range(length):
                for number, answered in ((-ARGUMENT, -1), (-1, -1), (LOSS, 0), (LOSS + 1, -1), (ARGUMENT, -1)):
                    given = [0] * length
                    given[place] = number
                    self.check(4, 0, given, answered)

    def test_twelve_bearers_there_never_are(self):
        eleven = TWELVE + [begin(1)]
        self.assertEqual(run(*eleven, check(4, 0, [0] * 11), check(4, 0, [0] * 12), check(4, 0, [0] * 13))[13:],
                         [[1], [0], [-1]])
        self.assertEqual(last(*eleven, check(4, 33, [3] * 11)), [1])


class RangeOfBetween(unittest.TestCase):
    def test_b_below_a(self):
        for a in (1, 2, 5, 14, 15, LOSS):
            told = run(*EVENT, between(a, a - 1, 1, 10), between(a, 0, 1, 10), between(a, a, 1, 10))[5:]
            self.assertEqual(told, [[-1], [-1], [0]])

    def test_both_outside(self):
        for a, b in ((-1, -1), (-1, 0), (-ARGUMENT, ARGUMENT), (LOSS + 1, LOSS + 1), (LOSS + 1, LOSS + 2)):
            self.assertEqual(last(*EVENT, between(a, b, 1, 10)), [-1])


class Refusals(unittest.TestCase):
    def test_member_that_is_there(self):
        self.assertEqual(last(*TWO, member(20)), [-2])

    def test_a_thirteenth_member(self):
        self.assertEqual(run(*TWELVE, member(13))[11:], [[0], [-9]])

    def test_none_of_the_changing_calls_while_an_event_is_open(self):
        calls = [member(30), house(1, 1, 1), change(20, 1, 1), begin(20), begin(10)]
        self.assertEqual(run(*EVENT, *calls)[5:], [[-5]] * 5)

    def test_no_such_member(self):
        self.assertEqual(run(*TWO, change(30, 1, 1), begin(30))[3:], [[-4], [-4]])

    def test_loss_above_the_greatest(self):
        seen = run(*TWO, begin(10), lose(LOSS - 2), lose(3), lose(2), lose(1), lose(LOSS))[4:]
        self.assertEqual(seen, [[37, LOSS - 39], [-6], [0, LOSS - 37], [-6], [-6]])

    def test_loss_below_0(self):
        seen = run(*TWO, begin(10), recover(1), lose(2), recover(3), recover(2), recover(1))[4:]
        self.assertEqual(seen, [[-6], [2, 0], [-6], [0, 2], [-6]])

    def test_no_event_is_open(self):
        calls = [lose(1), recover(1), close(), layer(1), share(1, 10), shares(1), person(10), person(0), who(1),
                 at(0, 1, 10), until(1, 10, 1), next_unit(), between(0, 1, 1, 10), check(1, 0, [0]), check(4, 0, []),
                 fair(1, 10)]
        refused = [[-7]] * len(calls)
        self.assertEqual(run(*TWO, *calls)[3:], refused)
        self.assertEqual(run(*EVENT, close(), *calls)[6:], refused)
        self.assertEqual(run(*calls), refused)

    def test_heaps_and_members_are_never_refused(self):
        for ahead in ([], TWO, TWELVE, EVENT, EVENT + [lose(LOSS - 14)], EVENT + [close()]):
            for told in run(*ahead, heaps(), members())[-2:]:
                self.assertGreaterEqual(min(told), 0)

    def test_no_bearer_of_that_key_in_that_layer(self):
        for k in range(1, 8):
            bearers = {1: [10], 2: [10], 3: [0], 4: [20], 5: [20], 6: [20], 7: [0]}[k]
            for key in (0, 10, 20, 30, KEY):
                for call in (share(k, key), at(14, k, key), until(k, key, 1), between(0, 14, k, key), fair(k, key)):
                    with self.subTest(call=call):
                        self.assertEqual(last(*EVENT, call) == [-8], key not in bearers)

    def test_no_bearers_at_all(self):
        calls = [call for k in (4, 5, 6) for key in (0, 10) for call in (
            share(k, key), at(0, k, key), until(k, key, 1), between(0, 1, k, key), fair(k, key))]
        self.assertEqual(run(member(10), begin(10), *calls)[2:], [[-8]] * 30)

    def test_person_that_is_no_member(self):
        self.assertEqual(run(*EVENT, *[person(key) for key in (0, 1, 9, 10, 11, 20, 30, KEY)])[5:],
                         [[3], [-4], [-4], [9], [-4], [2], [-4], [-4]])

    def test_until_more_than_the_most(self):
        mosts = {(1, 10): 5, (2, 10): 4, (3, 0): 3, (4, 20): 6, (5, 20): 12, (6, 20): 3, (7, 0): 4}
        for (k, key), most in mosts.items():
            told = run(*EVENT, *[until(k, key, m) for m in (most, most + 1, most + 2, LOSS)])[5:]
            self.assertEqual(told[1:], [[-3]] * 3)
            self.assertGreater(told[0][0], 0)
        self.assertEqual(last(member(10), begin(10), until(1, 10, 1)), [-3])


class ToldFirst(unittest.TestCase):
    def check(self, ahead, call, refusal):
        with self.subTest(call=call):
            self.assertEqual(last(*ahead, call), [refusal])

    def test_member(self):
        full = TWELVE + [begin(1)]
        self.check(full, member(0), -1)
        self.check(full, member(2, 0, 0, 0, WEIGHT + 1), -1)
        self.check(TWO, member(20, -1), -1)
        self.check(TWELVE, member(13, -1), -1)
        self.check(full, member(2), -5)
        self.check(full, member(1), -5)
        self.check(full, member(13), -5)
        self.check(TWELVE, member(12), -2)
        self.check(TWELVE, member(13), -9)

    def test_house(self):
        self.check(EVENT, house(-1, 0, 0), -1)
        self.check(EVENT, house(0, MONEY + 1, 0), -1)
        self.check(EVENT, house(0, 0, 11), -1)

    def test_change(self):
        self.check(EVENT, change(0, 1, 1), -1)
        self.check(EVENT, change(30, 5, 1), -1)
        self.check(TWO, change(30, 0, 1), -1)
        self.check(TWO, change(30, 4, WEIGHT + 1), -1)
        self.check(EVENT, change(30, 1, 1), -5)

    def test_open(self):
        self.check(EVENT, begin(0), -1)
        self.check(EVENT, begin(KEY + 1), -1)
        self.check(EVENT, begin(30), -5)

    def test_lose_and_recover(self):
        for call in (lose(0), lose(LOSS + 1), recover(0), recover(LOSS + 1)):
            self.check(TWO, call, -1)
            self.check(EVENT, call, -1)
        self.check(TWO, recover(1), -7)
        self.check(TWO, lose(LOSS), -7)

    def test_looks(self):
        for call in (layer(0), layer(8), share(0, 10), share(8, 10), share(1, -1), share(1, KEY + 1), shares(0),
                     shares(8)):
            self.check(TWO, call, -1)
            self.check(EVENT, call, -1)
        self.check(TWO, share(1, 30), -7)
        self.check(TWO, share(3, 10), -7)

    def test_person(self):
        for key in (-1, KEY + 1):
            self.check(TWO, person(key), -1)
            self.check(EVENT, person(key), -1)
        self.check(TWO, person(30), -7)
        self.check(EVENT, person(30), -4)

    def test_who_and_check(self):
        for call in (who(0), who(LOSS + 1), check(0, 0, []), check(8, 0, []), check(1, -1, []), check(1, LOSS + 1, []),
                     check(1, 0, [-1]), check(1, 0, [LOSS + 1]), check(1, 0, [0] * 13), check(1, 0, [0] * 20)):
            self.check(TWO, call, -1)
            self.check(EVENT, call, -1)
        self.check(TWO, check(4, 99, [1, 2, 3]), -7)

    def test_at_until_between_and_fair_look_at_all_their_ranges_first(self):
        # Key 30 bears nowhere and key 10 not in layer 3, so that -8 would be due too.
        outside = [at(-1, 1, 30), at(LOSS + 1, 3, 10), at(0, 0, 30), at(0, 8, 10), at(0, 1, -1), at(0, 3, KEY + 1),
                   until(0, 30, 1), until(8, 10, 1), until(1, -1, 1), until(3, KEY + 1, 1), until(1, 30, 0),
                   until(3, 10, LOSS + 1), between(1, 0, 1, 30), between(-1, 0, 3, 10), between(0, LOSS + 1, 1, 30),
                   between(LOSS + 1, LOSS + 1, 3, 10), between(0, 0, 0, 30), between(0, 0, 8, 10),
                   between(0, 0, 1, -1), between(0, 0, 3, KEY + 1), fair(0, 30), fair(8, 10), fair(1, -1),
                   fair(3, KEY + 1)]
        for call in outside:
            self.check(TWO, call, -1)
            self.check(EVENT, call, -1)
        for call in (at(0, 1, 30), until(1, 30, 1), until(3, 10, LOSS), between(0, 0, 3, 10), fair(3, 10)):
            self.check(TWO, call, -7)
            self.check(EVENT, call, -8)

    def test_until_looks_for_the_bearer_ahead_of_its_most(self):
        self.check(EVENT, until(1, 30, LOSS), -8)
        self.check(EVENT, until(4, 10, 7), -8)
        self.check(EVENT, until(4, 20, 7), -3)
        self.check(TWO, until(4, 20, LOSS), -7)


class NothingChanges(unittest.TestCase):
    def check(self, ahead, refused, behind):
        """Behind the refused call all is as if it hadn't been."""
        without = run(*ahead, *behind)
        for call, refusal in refused:
            with self.subTest(call=call):
                seen = run(*ahead, call, *behind)
                self.assertEqual(seen.pop(len(ahead)), [refusal])
                self.assertEqual(seen, without)

    def test_while_no_event_is_open(self):
        refused = [(member(20, 9, 9, 9, 9), -2), (member(30, 9, 9, 9, WEIGHT + 1), -1), (member(0, 9, 9, 9, 9), -1),
                   (house(9, 9, 11), -1), (house(MONEY + 1, 9, 9), -1), (change(30, 2, 9), -4),
                   (change(20, 2, MONEY + 1), -1), (change(20, 5, 9), -1), (change(20, 0, 9), -1),
                   (change(20, 4, WEIGHT + 1), -1), (begin(30), -4), (begin(0), -1), (lose(9), -7), (recover(9), -7),
                   (close(), -7), (layer(1), -7), (share(1, 10), -7), (shares(1), -7), (person(10), -7), (who(9), -7),
                   (at(9, 1, 10), -7), (until(1, 10, 9), -7), (next_unit(), -7), (between(0, 9, 1, 10), -7),
                   (check(1, 9, [5]), -7), (fair(1, 10), -7), (who(0), -1), (check(1, 0, [9] * 13), -1)]
        behind = [heaps(), members(), member(30, 1, 2, 3, 4), heaps(), members(), begin(20), *look(), lose(25), *look(),
                  close(), heaps(), members(), begin(10), *look()]
        self.check(TWO, refused, behind)

    def test_while_an_event_is_open(self):
        refused = [(member(30, 9, 9, 9, 9), -5), (member(10, 9, 9, 9, 9), -5), (house(9, 9, 9), -5),
                   (change(10, 1, 99), -5), (change(20, 2, 99), -5), (change(20, 3, 99), -5), (change(20, 4, 0), -5),
                   (begin(20), -5), (begin(10), -5), (lose(0), -1), (lose(LOSS), -6), (lose(LOSS - 13), -6),
                   (recover(0), -1), (recover(15), -6), (recover(LOSS), -6), (layer(0), -1), (share(1, 20), -8),
                   (shares(8), -1), (person(30), -4), (person(-1), -1), (who(0), -1), (at(-1, 1, 10), -1),
                   (at(99, 1, 20), -8), (until(1, 10, 6), -3), (until(1, 20, 1), -8), (until(1, 10, 0), -1),
                   (between(9, 8, 1, 10), -1), (between(8, 9, 1, 20), -8), (check(0, 9, [9]), -1),
                   (check(1, 9, [9] * 13), -1), (check(1, 9, [-1]), -1), (fair(1, 20), -8), (fair(0, 10), -1)]
        behind = [*look(), next_unit(), heaps(), members(), recover(2), *look(), lose(7), *look(), close(), heaps(),
                  begin(20), *look(), close(), heaps(), members(), member(30), begin(30), *look()]
        self.check(EVENT, refused, behind)

    def test_with_twelve_members(self):
        behind = [begin(1), *look(), lose(40), *look(), close(), member(13, 5, 5, 5, 5), begin(13), *look()]
        self.check(TWELVE, [(member(13, 9, 9, 9, 9), -9), (member(12, 9, 9, 9, 9), -2)], behind)

    def test_the_looks_themselves_change_nothing(self):
        behind = [*look(), next_unit(), heaps(), members(), recover(2), *look(), close(), heaps(), members(), begin(20),
                  *look()]
        without = run(*EVENT, *behind)
        for call in look() + [share(4, 20)] + look_closely([0, 10, 20, 30], [0, 1, 5, 14, 99, LOSS]):
            seen = run(*EVENT, call, *behind)
            seen.pop(len(EVENT))
            self.assertEqual(seen, without, call)

    def test_they_may_stand_in_any_order(self):
        calls = look_closely([0, 10, 20, 30], [0, 1, 5, 14, 99, LOSS])
        told = run_in_lines(EVENT, calls)
        self.assertEqual(run_in_lines(EVENT, calls[::-1]), told[::-1])

    def test_with_no_event_open_heaps_and_members_change_nothing(self):
        behind = [begin(20), lose(9), *look(), close(), heaps(), members()]
        self.assertEqual(run(*TWO, heaps(), members(), members(), heaps(), *behind)[7:], run(*TWO, *behind)[3:])


if __name__ == "__main__":
    unittest.main()
