"""How the units of one layer go to its bearers.

Lists of bearers come here by rising keys, and the units are never more than the room of the bearers.
"""


class Bearer:
    def __init__(self, key, weight, most):
        self.key = key
        self.weight = weight
        self.most = most


def room_of(bearers):
    return sum([bearer.most for bearer in bearers])


def shares_after(bearers, units):
    """The share of each bearer's key after so many units of the layer, by rising keys."""
    weighted = weighted_of(bearers)
    by_weight = min(units, room_of(weighted))
    given = given_by_weight(weighted, by_weight)
    given.update(given_by_weight(weightless_of(bearers), units - by_weight))
    return dict([(bearer.key, given[bearer.key]) for bearer in bearers])


def weighted_of(bearers):
    return [bearer for bearer in bearers if bearer.weight > 0]


def weightless_of(bearers):
    """Those of weight 0, who have their turn when the others are full."""
    return [with_weight_1(bearer) for bearer in bearers if bearer.weight == 0]


def with_weight_1(bearer):
    # The one given least comes first among those of weight 0, as it would if each had the weight 1.
    return Bearer(bearer.key, 1, bearer.most)


def given_by_weight(bearers, units):
    """How many of the units each key gets, where no weight is 0."""
    given = {}
    waiting = bearers
    left = units
    full = filled_by(waiting, left)
    while len(full) > 0:
        for bearer in full:
            given[bearer.key] = bearer.most
        left = left - room_of(full)
        waiting = [bearer for bearer in waiting if bearer.key not in given]
        full = filled_by(waiting, left)
    weights = total_weight(waiting)
    for bearer in waiting:
        given[bearer.key] = left * bearer.weight // weights
    give_one_by_one(waiting, given, left - sum([given[bearer.key] for bearer in waiting]))
    return given


def filled_by(bearers, units):
    """The bearers who surely have their most after the units.

    Of the units at a fraction up to units / weights there are no more than the units that are shared out, so
    all of these are among them: each bearer has at least its weight times that fraction, rounded down, or its most.
    """
    weights = total_weight(bearers)
    return [bearer for bearer in bearers if bearer.most * weights <= units * bearer.weight]


def total_weight(bearers):
    return sum([bearer.weight for bearer in bearers])


def give_one_by_one(bearers, given, units):
    """Gives what rounding down has left, which is fewer units than there are bearers."""
    for unit in range(units):
        taker = next_taker(bearers, given)
        given[taker.key] += 1


def next_taker(bearers, given):
    """The bearer of the next unit; of several it stays the earliest, who has the lowest key."""
    taker = None
    for bearer in bearers:
        if given[bearer.key] < bearer.most and (taker is None or comes_before(bearer, taker, given)):
            taker = bearer
    return taker


def comes_before(one, other, given):
    # Multiplied crosswise, for the fractions are exact.
    return (given[one.key] + 1) * other.weight < (given[other.key] + 1) * one.weight


def taker_of(bearers, unit):
    """The key of the bearer whose the layer's unit is."""
    before = shares_after(bearers, unit - 1)
    after = shares_after(bearers, unit)
    # Of two numbers of units one apart just one share differs.
    return [key for key in after if after[key] != before[key]][0]


def place_of(bearers, bearer, share):
    """Which of the layer's units it is that brings the bearer to the share, which is at most its most."""
    weighted = weighted_of(bearers)
    if bearer.weight > 0:
        return place_by_weight(weighted, bearer, share)
    return room_of(weighted) + place_by_weight(weightless_of(bearers), with_weight_1(bearer), share)


def place_by_weight(bearers, bearer, share):
    """The place among units of bearers whose weights are not 0."""
    return sum([min(other.most, units_up_to(other, bearer, share)) for other in bearers])


def units_up_to(other, bearer, share):
    """How many units the other would have, had it no most, when the bearer gets the last unit of the share."""
    crosswise = share * other.weight
    if other.key > bearer.key:
        # Its unit at the very same fraction comes later.
        crosswise = crosswise - 1
    return crosswise // bearer.weight
