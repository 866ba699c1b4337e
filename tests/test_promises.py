"""Promises 1 to 4 as all the calls show them, and whole lines beside a plain house."""

import random
import unittest

from fractions import Fraction

from lossbook.house import answers
from tests.helper import (PlainHouse, all_shares, at, begin, between, change, check, close, fair, heaps, house, joined,
                          layer, look, look_closely, lose, member, members, next_unit, person, recover, run,
                          run_in_lines, share, shares, split_answers, until, who)

# Rooms: 5, 4, 3, 9 (6, 2 and 1), 18 (12, 4 and 2), 11 (3, 5 and 3), 4: 54 together.
HOUSE = [
    member(30, 1, 2, 5, 3),
    member(10, 5, 4, 9, 2),
    member(40, 2, 1, 3, 0),
    member(20, 7, 6, 3, 1),
    house(3, 4, 2),
    begin(10),
]
ROOMS = [5, 4, 3, 9, 18, 11, 4]
MOSTS = {4: {20: 6, 30: 2, 40: 1}, 5: {20: 12, 30: 4, 40: 2}, 6: {20: 3, 30: 5, 40: 3}}
WEIGHTS = {20: 1, 30: 3, 40: 0}
TOTAL = sum(ROOMS)
KEYS = [0, 10, 20, 30, 40]


def shares_at(loss):
    """The share of each (layer, key) at the loss."""
    ahead = HOUSE + ([lose(loss)] if loss else [])
    found = {}
    for k, seen in enumerate(run(*ahead, *all_shares())[len(ahead):], start=1):
        for place in range(1, len(seen), 2):
            found[k, seen[place]] = seen[place + 1]
    return found


def takers_up_to(loss, told_at=0):
    """(layer, key) of each unit from 1 to the loss, told where the loss is another one."""
    ahead = HOUSE + ([lose(told_at)] if told_at else [])
    return [tuple(told) for told in run(*ahead, *[who(u) for u in range(1, loss + 1)])[len(ahead):]]


class Promise1(unittest.TestCase):
    def test_the_shares_count_the_units_that_who_tells_of(self):
        takers = takers_up_to(TOTAL + 5)
        self.assertEqual(takers[TOTAL:], [(8, 0)] * 5)
        self.assertEqual([k for k, _ in takers[:TOTAL]], [k for k in range(1, 8) for _ in range(ROOMS[k - 1])])
        for loss in range(TOTAL + 6):
            counted = {bearer: takers[:loss].count(bearer) for bearer in shares_at(0)}
            self.assertEqual(shares_at(loss), counted)
            self.assertEqual(sum(counted.values()) + takers[:loss].count((8, 0)), loss)

    def test_persons_and_other_losses_count_the_same_units(self):
        takers = takers_up_to(TOTAL + 5)
        for loss in range(1, TOTAL + 6):
            borne = takers[:loss]
            told = run(*HOUSE, lose(loss), *[person(key) for key in KEYS])[7:]
            self.assertEqual(told, [[len([k for k, taker in borne if taker == key and k < 8])] for key in KEYS])
            bearers = list(shares_at(0))
            self.assertEqual(run(*HOUSE, *[at(loss, k, key) for k, key in bearers])[6:],
                             [[borne.count(bearer)] for bearer in bearers])

    def test_units_between_two_losses_add_up(self):
        bearers = list(shares_at(0))
        for a in range(0, TOTAL + 5, 6):
            for b in range(a, TOTAL + 5, 5):
                told = run(*HOUSE, *[between(a, b, k, key) for k, key in bearers])[6:]
                self.assertEqual(sum(units for units, in told), min(b, TOTAL) - min(a, TOTAL))

    def test_a_layer_bears_nothing_before_those_ahead_are_full(self):
        for loss in range(1, TOTAL + 5):
            seen = run(*HOUSE, lose(loss), *[layer(k) for k in range(1, 8)])[7:]
            self.assertEqual([room for room, _ in seen], ROOMS)
            for k, (room, borne) in enumerate(seen):
                self.assertEqual(borne, max(0, min(room, loss - sum(ROOMS[:k]))))

    def test_every_unit_has_one_bearer_or_is_nobodys(self):
        for loss in range(1, TOTAL + 5):
            seen = run(*HOUSE, lose(loss), close())
            self.assertEqual(seen[6], [min(loss, TOTAL), max(0, loss - TOTAL)])
            self.assertEqual(seen[7][0], max(0, loss - TOTAL))
            self.assertEqual(sum(shares_at(loss).values()), min(loss, TOTAL))

    def test_what_a_layer_bears_is_the_sum_of_its_shares(self):
        for loss in range(1, TOTAL + 5):
            seen = run(*HOUSE, lose(loss), *look())[7:]
            self.assertEqual([borne for _, borne in seen[:7]], [sum(told[2::2]) for told in seen[7:]])

    def test_layers_without_room_are_passed_over(self):
        seen = run(member(1), member(2, 9, 0, 7, 1), begin(1), lose(5), *[layer(k) for k in range(1, 8)])[3:]
        self.assertEqual(seen, [[5, 0], [0, 0], [0, 0], [0, 0], [0, 0], [0, 0], [7, 5], [0, 0]])

    def test_where_nobody_can_bear_all_is_uncovered(self):
        self.assertEqual(run(member(1), begin(1), lose(5), recover(2), close())[2:], [[0, 5], [2, 0], [3, 0, 0]])


class Promise2(unittest.TestCase):
    def test_one_loss_or_the_same_in_pieces_or_more_and_some_got_back(self):
        chance = random.Random(3)
        for loss in range(0, TOTAL + 6):
            whole = run(*HOUSE, *([lose(loss)] if loss else []), *look())[-14:]
            for _ in range(3):
                calls = self.pieces(chance, loss)
                self.assertEqual(run(*HOUSE, *calls, *look())[-14:], whole, calls)
                self.assertEqual(run(*HOUSE, *calls, *look(), close(), begin(20), *look())[-16:],
                                 run(*HOUSE, *([lose(loss)] if loss else []), close(), begin(20), *look())[-16:])

    def test_the_calls_person_to_fair_hang_on_the_loss_alone(self):
        chance = random.Random(7)
        calls = look_closely(KEYS, [0, 1, 4, 9, 20, 54])
        for loss in range(0, TOTAL + 6, 3):
            whole = run_in_lines(HOUSE + self.step(0, loss), calls)
            self.assertEqual(run_in_lines(HOUSE + self.pieces(chance, loss), calls), whole)
            close_and_look = [close(), heaps(), members()]
            self.assertEqual(run(*HOUSE, *self.pieces(chance, loss), *close_and_look)[-3:],
                             run(*HOUSE, *self.step(0, loss), *close_and_look)[-3:])

    def test_whose_a_unit_is_does_not_hang_on_the_loss(self):
        takers = takers_up_to(TOTAL + 5)
        for loss in range(1, TOTAL + 6, 4):
            self.assertEqual(takers_up_to(TOTAL + 5, loss), takers)

    def pieces(self, chance, loss):
        """Calls after which the loss is this one."""
        calls = []
        reached = 0
        for _ in range(chance.randint(0, 5)):
            goal = chance.randint(0, TOTAL + 10)
            calls += self.step(reached, goal)
            reached = goal
        return calls + self.step(reached, loss)

    def step(self, reached, goal):
        if goal == reached:
            return []
        return [lose(goal - reached)] if goal > reached else [recover(reached - goal)]

    def test_answers_of_the_pieces_add_up(self):
        for loss in range(2, TOTAL + 6):
            whole = run(*HOUSE, lose(loss))[-1]
            for piece in range(1, loss):
                first, second = run(*HOUSE, lose(piece), lose(loss - piece))[-2:]
                self.assertEqual([first[0] + second[0], second[1]], whole)

    def test_recover_undoes_what_lose_answered(self):
        for loss in range(1, TOTAL + 6):
            for back in range(1, loss + 1):
                lost, got, again = run(*HOUSE, lose(loss), recover(back), lose(back))[-3:]
                self.assertEqual(sum(got), back)
                self.assertEqual(again, [got[1], lost[1]])


class Promise3(unittest.TestCase):
    def test_of_two_losses_one_unit_apart_one_share_differs_by_one(self):
        for loss in range(TOTAL):
            before, after = shares_at(loss), shares_at(loss + 1)
            self.assertEqual(before.keys(), after.keys())
            self.assertEqual(sorted(after[at] - before[at] for at in after), [0] * (len(after) - 1) + [1])

    def test_it_is_the_share_of_the_one_whom_who_and_next_tell_of(self):
        for loss in range(TOTAL):
            before, after = shares_at(loss), shares_at(loss + 1)
            grown = [bearer for bearer in after if after[bearer] != before[bearer]]
            self.assertEqual([list(bearer) for bearer in grown], [run(*HOUSE, who(loss + 1))[-1]])
            ahead = HOUSE + ([lose(loss)] if loss else [])
            self.assertEqual([list(bearer) for bearer in grown], [run(*ahead, next_unit())[-1]])
            self.assertEqual(run(*HOUSE, until(*grown[0], after[grown[0]]))[-1], [loss + 1])

    def test_at_never_falls_and_grows_by_one_for_just_one_bearer(self):
        bearers = list(shares_at(0))
        told = [run(*HOUSE, *[at(n, k, key) for k, key in bearers])[6:] for n in range(TOTAL + 1)]
        for before, after in zip(told, told[1:]):
            grown = sorted(new - old for (old,), (new,) in zip(before, after))
            self.assertEqual(grown, [0] * (len(bearers) - 1) + [1])

    def test_behind_the_seventh_layer_no_share_differs(self):
        for loss in (TOTAL, TOTAL + 1, TOTAL + 1000):
            self.assertEqual(shares_at(loss), shares_at(loss + 1))

    def test_in_great_numbers_too(self):
        ahead = [member(key, key, 10 ** 12 - key, 10 ** 12 - 3 * key, 7 * key % 12 * 90001) for key in range(1, 13)]
        ahead += [house(5, 6, 10), begin(5)]
        for loss in (10 ** 12 + 17, 10 ** 13 + 3, 3 * 10 ** 13 + 1, 10 ** 14 + 9, 125 * 10 ** 12 + 5):
            seen = run(*ahead, lose(loss), *all_shares(), lose(1), *all_shares())[len(ahead):]
            before, after = sum(seen[1:8], []), sum(seen[9:], [])
            self.assertEqual(sorted(b - a for a, b in zip(before, after)), [0] * (len(after) - 1) + [1])
            grown = [place for place in range(len(after)) if after[place] != before[place]][0]
            unit = run(*ahead, who(loss + 1))[-1]
            self.assertEqual([unit[1]], [after[grown - 1]])
            self.assertEqual(run(*ahead, until(*unit, after[grown]), at(loss, *unit), at(loss + 1, *unit),
                                 between(loss, loss + 1, *unit))[-4:],
                             [[loss + 1], [before[grown]], [after[grown]], [1]])


class Promise4(unittest.TestCase):
    def test_nobody_below_the_most_waits_for_a_unit_that_was_to_come_later(self):
        for loss in range(TOTAL + 1):
            borne = shares_at(loss)
            for k, mosts in MOSTS.items():
                for waiting, most in mosts.items():
                    if borne[k, waiting] < most:
                        self.nobody_is_ahead_wrongly(k, waiting, borne)

    def test_units_of_a_layer_come_by_their_turns(self):
        takers = takers_up_to(TOTAL)
        for k in MOSTS:
            own = [key for layer_of, key in takers if layer_of == k]
            turns = [self.turn(key, own[:place].count(key)) for place, key in enumerate(own, start=1)]
            self.assertEqual(turns, sorted(turns))

    def test_until_comes_by_the_turns_too(self):
        for k, mosts in MOSTS.items():
            wanted = [(key, m) for key, most in mosts.items() for m in range(1, most + 1)]
            losses = run(*HOUSE, *[until(k, key, m) for key, m in wanted])[6:]
            by_turn = sorted(wanted, key=lambda unit: self.turn(*unit))
            self.assertEqual([loss for _, loss in sorted(zip(wanted, losses), key=lambda told: by_turn.index(told[0]))],
                             [[sum(ROOMS[:k - 1]) + place] for place in range(1, len(wanted) + 1)])

    def nobody_is_ahead_wrongly(self, k, waiting, borne):
        """The next unit of the one who waits comes behind the last unit that each of the others has."""
        for other in MOSTS[k]:
            if other != waiting and borne[k, other] > 0:
                self.assertLess(self.turn(other, borne[k, other]), self.turn(waiting, borne[k, waiting] + 1))

    def turn(self, key, unit):
        """Where a bearer's unit stands in the layer: those with a weight first, by fraction, then by key."""
        weight = WEIGHTS[key]
        return (0, Fraction(unit, weight), key) if weight else (1, unit, key)


class WholeLines(unittest.TestCase):
    def test_beside_a_plain_house(self):
        chance = random.Random(4)
        refused = {}
        for _ in range(600):
            calls = [self.any_call(chance) for _ in range(chance.randint(1, 80))]
            plain = PlainHouse()
            expected = [plain.answer(call) for call in calls]
            self.assertEqual(split_answers(answers(joined(calls))), expected, calls)
            for call, answered in zip(calls, expected):
                refused[call[0], min(answered[0], 0)] = True
        # Every call was answered and refused in each of its ways, but -9, which wants many members.
        self.assertEqual(sorted(refused), sorted(
            [(number, 0) for number in range(20)]
            + [(number, -1) for number in range(20) if number not in (6, 14, 17, 18)]
            + [(number, -5) for number in (0, 1, 2, 3)]
            + [(number, -7) for number in range(4, 20) if number not in (17, 18)]
            + [(number, -8) for number in (8, 12, 13, 15, 19)]
            + [(0, -2), (2, -4), (3, -4), (10, -4), (4, -6), (5, -6), (13, -3)]))

    def any_call(self, chance):
        key = chance.choice([0, 1, 2, 3, 4, 5])
        often = [0, 0, 0, 0, 0, 0, 1, 2, 2, 3, 3, 3, 4, 4, 4, 4, 5, 5, 6, 7, 8, 8, 9, 9]
        number = chance.choice(often + list(range(10, 20)))
        money = [chance.choice([0, 1, 2, 3, 5, 8]) for _ in range(3)]
        units, more_units = [chance.choice([0, 1, 2, 3, 5, 8, 13, 21, 34, 10 ** 15 - 5]) for _ in range(2)]
        k = chance.randint(0, 8)
        return [
            member(key, money[0], money[1], money[2], chance.choice([-1, 0, 1, 2, 3])),
            house(money[0], money[1], chance.choice([0, 1, 2, 11])),
            change(key, chance.randint(0, 5), money[0]),
            begin(key),
            lose(units),
            recover(units),
            close(),
            layer(k),
            share(k, key),
            shares(k),
            person(chance.choice([key, -1])),
            who(units),
            at(chance.choice([units, -1]), k, key),
            until(k, key, min(units, 5)),
            next_unit(),
            between(units, more_units, k, key),
            check(k, min(units, 3), [chance.randint(0, 1) for _ in range(chance.choice([0, 1, 2, 3, 13]))]),
            heaps(),
            members(),
            fair(k, key),
        ][number]


if __name__ == "__main__":
    unittest.main()
