"""Calls as the interface hands them in, and a slow house that counts unit by unit, as the document words it."""

import math

from fractions import Fraction

from lossbook.house import answers

KEY = 1000000000
MONEY = 1000000000000
WEIGHT = 1000000
MULTIPLE = 10
LOSS = 1000000000000000
ARGUMENT = 1000000000000000000


def member(key, margin=0, fund=0, gain=0, weight=1):
    return [0, key, margin, fund, gain, weight]


def house(first=0, last=0, multiple=0):
    return [1, first, last, multiple]


def change(key, what, amount):
    return [2, key, what, amount]


def begin(key):
    return [3, key]


def lose(n):
    return [4, n]


def recover(n):
    return [5, n]


def close():
    return [6]


def layer(k):
    return [7, k]


def share(k, key):
    return [8, k, key]


def shares(k):
    return [9, k]


def person(key):
    return [10, key]


def who(u):
    return [11, u]


def at(n, k, key):
    return [12, n, k, key]


def until(k, key, m):
    return [13, k, key, m]


def next_unit():
    return [14]


def between(a, b, k, key):
    return [15, a, b, k, key]


def check(k, n, given):
    return [16, k, n, len(given), *given]


def heaps():
    return [17]


def members():
    return [18]


def fair(k, key):
    return [19, k, key]


def joined(calls):
    line = []
    for call in calls:
        line += call
    return line


def split_answers(answered):
    """What each call answered, without the count ahead of it."""
    lists = []
    place = 0
    while place < len(answered):
        end = place + 1 + answered[place]
        lists.append(answered[place + 1:end])
        assert end <= len(answered) and lists[-1] != [], answered
        place = end
    return lists


def run(*calls):
    lists = split_answers(answers(joined(calls)))
    assert len(lists) == len(calls), lists
    return lists


def last(*calls):
    return run(*calls)[-1]


def all_shares():
    return [shares(k) for k in range(1, 8)]


def look():
    """Calls that show what each layer of an open event bears, and each bearer."""
    return [layer(k) for k in range(1, 8)] + all_shares()


def look_closely(keys, units):
    """Each of the calls person to fair, of all these keys and at all these numbers of units."""
    calls = [next_unit(), heaps(), members()] + [person(key) for key in keys] + [who(u) for u in units if u]
    for k in range(1, 8):
        calls += [check(k, n, given) for n in units for given in ([], [n], [0, n])]
        for key in keys:
            calls += [fair(k, key)] + [at(n, k, key) for n in units] + [until(k, key, m) for m in units if m]
            calls += [between(a, b, k, key) for a, b in zip(units, units[1:])]
    return calls


def run_in_lines(ahead, calls):
    """What the calls answer behind those ahead, in as many lines as they need of at most 400 calls."""
    found = []
    step = 400 - len(ahead)
    for begun in range(0, len(calls), step):
        found += run(*ahead, *calls[begun:begun + step])[len(ahead):]
    return found


def any_bearers(chance):
    """One to eleven bearers, (key, weight, most), some of them of weight 0 or a most of 0."""
    keys = chance.sample(range(1, 30), chance.randint(1, 11))
    weight = chance.choice([1, 2, 7, 30, WEIGHT])
    most = chance.choice([1, 3, 8, 15])
    return [(key, chance.randint(0, weight), chance.randint(0, most)) for key in keys]


def plain_takers(bearers):
    """The key of each unit of a layer, where bearers are (key, weight, most), in any order."""
    given = {key: 0 for key, _, _ in bearers}
    takers = []
    while True:
        below = [bearer for bearer in bearers if given[bearer[0]] < bearer[2]]
        weighted = [(Fraction(given[key] + 1, weight), key) for key, weight, _ in below if weight != 0]
        weightless = [(given[key], key) for key, weight, _ in below if weight == 0]
        if not below:
            return takers
        taker = min(weighted or weightless)[1]
        given[taker] += 1
        takers.append(taker)


def plain_shares(bearers, units):
    """The answer of shares for a layer after so many of its units."""
    takers = plain_takers(bearers)[:units]
    answered = [len(bearers)]
    for key in sorted(key for key, _, _ in bearers):
        answered += [key, takers.count(key)]
    return answered


class PlainHouse:
    """Answers the calls for small numbers, by a list of all the units' bearers."""

    def __init__(self):
        self.members = {}
        self.first = self.last = self.multiple = self.called = self.unpaid = 0
        self.defaulter = self.loss = self.counted = None

    def bearers(self, k):
        margin, fund, _, _ = self.members[self.defaulter]
        others = [(key, *held) for key, held in self.members.items() if key != self.defaulter]
        return {
            1: [(self.defaulter, 1, margin)],
            2: [(self.defaulter, 1, fund)],
            3: [(0, 1, self.first)],
            4: [(key, weight, fund) for key, _, fund, _, weight in others],
            5: [(key, weight, self.multiple * fund) for key, _, fund, _, weight in others],
            6: [(key, weight, gain) for key, _, _, gain, weight in others],
            7: [(0, 1, self.last)],
        }[k]

    def units(self):
        """Layer and key of each unit that has a bearer, counted once for an event."""
        if self.counted is None:
            self.counted = [(k, key) for k in range(1, 8) for key in plain_takers(self.bearers(k))]
        return self.counted

    def borne(self, k, key):
        return self.units()[:self.loss].count((k, key))

    def borne_by_layer(self, k):
        return [unit[0] for unit in self.units()[:self.loss]].count(k)

    def uncovered(self):
        return max(0, self.loss - len(self.units()))

    def answer(self, call):
        number, given = call[0], call[1:]
        calls = [self.member, self.house, self.change, self.begin, self.lose, self.recover, self.close,
                 self.layer, self.share, self.shares, self.person, self.who, self.at, self.until, self.next_unit,
                 self.between, self.check, self.heaps, self.keys, self.fair]
        return calls[number](*given)

    def refusal(self, in_range, k=None, key=None):
        """-1, -7, -8 or nothing, for a call that tells of an event or of a bearer in it."""
        if not in_range:
            return [-1]
        if not self.defaulter:
            return [-7]
        if k is not None and key not in [bearer[0] for bearer in self.bearers(k)]:
            return [-8]
        return []

    def member(self, key, margin, fund, gain, weight):
        if not (1 <= key <= KEY and all(0 <= m <= MONEY for m in (margin, fund, gain)) and 0 <= weight <= WEIGHT):
            return [-1]
        if self.defaulter:
            return [-5]
        if key in self.members:
            return [-2]
        if len(self.members) >= 12:
            return [-9]
        self.members[key] = [margin, fund, gain, weight]
        return [0]

    def house(self, first, last_piece, multiple):
        if not (0 <= first <= MONEY and 0 <= last_piece <= MONEY and 0 <= multiple <= MULTIPLE):
            return [-1]
        if self.defaulter:
            return [-5]
        self.first, self.last, self.multiple = first, last_piece, multiple
        return [0]

    def change(self, key, what, amount):
        if not (1 <= key <= KEY and what in (1, 2, 3, 4) and 0 <= amount <= (WEIGHT if what == 4 else MONEY)):
            return [-1]
        if self.defaulter:
            return [-5]
        if key not in self.members:
            return [-4]
        self.members[key][what - 1] = amount
        return [0]

    def begin(self, key):
        if not 1 <= key <= KEY:
            return [-1]
        if self.defaulter:
            return [-5]
        if key not in self.members:
            return [-4]
        self.defaulter, self.loss, self.counted = key, 0, None
        return [0]

    def lose(self, n):
        return self.move(n, 1)

    def recover(self, n):
        return self.move(n, -1)

    def move(self, n, sign):
        if not 1 <= n <= LOSS:
            return [-1]
        if not self.defaulter:
            return [-7]
        if not 0 <= self.loss + sign * n <= LOSS:
            return [-6]
        before, uncovered_before = self.loss, self.uncovered()
        self.loss += sign * n
        borne = abs((self.loss - self.uncovered()) - (before - uncovered_before))
        return [borne, self.uncovered()] if sign == 1 else [uncovered_before - self.uncovered(), borne]

    def close(self):
        if not self.defaulter:
            return [-7]
        margin, fund, _, _ = self.members[self.defaulter]
        answered = [self.uncovered(), margin - self.borne_by_layer(1), fund - self.borne_by_layer(2)]
        taken = {key: (self.borne(4, key), self.borne(6, key)) for key in self.members if key != self.defaulter}
        first, last_piece = self.borne_by_layer(3), self.borne_by_layer(7)
        self.called += self.borne_by_layer(5)
        self.unpaid += self.uncovered()
        del self.members[self.defaulter]
        for key, (from_fund, from_gain) in taken.items():
            self.members[key][1] -= from_fund
            self.members[key][2] -= from_gain
        self.first -= first
        self.last -= last_piece
        self.defaulter = self.loss = None
        return answered

    def layer(self, k):
        return self.refusal(1 <= k <= 7) or [sum(most for _, _, most in self.bearers(k)), self.borne_by_layer(k)]

    def share(self, k, key):
        return self.refusal(1 <= k <= 7 and 0 <= key <= KEY, k, key) or [self.borne(k, key)]

    def shares(self, k):
        if self.refusal(1 <= k <= 7):
            return self.refusal(1 <= k <= 7)
        keys = sorted(bearer[0] for bearer in self.bearers(k))
        return [len(keys)] + [number for key in keys for number in (key, self.borne(k, key))]

    def person(self, key):
        if self.refusal(0 <= key <= KEY):
            return self.refusal(0 <= key <= KEY)
        if key != 0 and key not in self.members:
            return [-4]
        return [[taker for _, taker in self.units()[:self.loss]].count(key)]

    def unit(self, u):
        units = self.units()
        return list(units[u - 1]) if u <= len(units) else [8, 0]

    def who(self, u):
        return self.refusal(1 <= u <= LOSS) or self.unit(u)

    def next_unit(self):
        return self.refusal(True) or self.unit(self.loss + 1)

    def at(self, n, k, key):
        refusal = self.refusal(0 <= n <= LOSS and 1 <= k <= 7 and 0 <= key <= KEY, k, key)
        return refusal or [self.units()[:n].count((k, key))]

    def until(self, k, key, m):
        refusal = self.refusal(1 <= k <= 7 and 0 <= key <= KEY and 1 <= m <= LOSS, k, key)
        if refusal:
            return refusal
        own = [u for u, unit in enumerate(self.units(), start=1) if unit == (k, key)]
        return [own[m - 1]] if m <= len(own) else [-3]

    def between(self, a, b, k, key):
        refusal = self.refusal(0 <= a <= LOSS and a <= b <= LOSS and 1 <= k <= 7 and 0 <= key <= KEY, k, key)
        return refusal or [self.units()[a:b].count((k, key))]

    def check(self, k, n, count, *given):
        numbers = (n, *given)
        refusal = self.refusal(1 <= k <= 7 and count <= 12 and all(0 <= number <= LOSS for number in numbers))
        if refusal:
            return refusal
        takers = plain_takers(self.bearers(k))
        right = [takers[:n].count(key) for key in sorted(bearer[0] for bearer in self.bearers(k))]
        return [1] if n <= len(takers) and list(given) == right else [0]

    def heaps(self):
        sums = [sum(held[place] for held in self.members.values()) for place in range(3)]
        return sums + [self.first, self.last, self.called, self.unpaid]

    def keys(self):
        return [len(self.members)] + sorted(self.members)

    def fair(self, k, key):
        refusal = self.refusal(1 <= k <= 7 and 0 <= key <= KEY, k, key)
        if refusal:
            return refusal
        weights = {bearer: weight for bearer, weight, _ in self.bearers(k)}
        part = Fraction(self.borne_by_layer(k) * weights[key], sum(weights.values())) if any(weights.values()) else 0
        return [self.borne(k, key), math.floor(part)]
