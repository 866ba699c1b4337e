"""The calls that tell of single units and of other losses; each gives back the list of numbers that it answers."""

from lossbook.layers import bearer_of
from lossbook.layers import bearers_of
from lossbook.layers import room_ahead
from lossbook.layers import share_at
from lossbook.layers import taker_of_unit
from lossbook.limits import MOST_LOSS
from lossbook.limits import is_bearer_key
from lossbook.limits import is_layer
from lossbook.limits import is_loss
from lossbook.limits import is_share_list
from lossbook.limits import is_some_units
from lossbook.refusals import MORE_THAN_MOST
from lossbook.refusals import NO_REFUSAL
from lossbook.refusals import bearer_refusal
from lossbook.refusals import event_refusal
from lossbook.units import place_of
from lossbook.units import room_of
from lossbook.units import shares_after


def who_view(house, unit):
    refusal = event_refusal(house, is_some_units(unit))
    if refusal != NO_REFUSAL:
        return [refusal]
    return list(taker_of_unit(house, unit))


def next_view(house):
    refusal = event_refusal(house, True)
    if refusal != NO_REFUSAL:
        return [refusal]
    return list(taker_of_unit(house, house.loss + 1))


def at_view(house, loss, k, key):
    in_range = is_loss(loss) and is_layer(k) and is_bearer_key(key)
    refusal = bearer_refusal(house, in_range, k, key)
    if refusal != NO_REFUSAL:
        return [refusal]
    return [share_at(house, k, key, loss)]


def between_view(house, lower, upper, k, key):
    in_range = is_loss(lower) and lower <= upper <= MOST_LOSS and is_layer(k) and is_bearer_key(key)
    refusal = bearer_refusal(house, in_range, k, key)
    if refusal != NO_REFUSAL:
        return [refusal]
    return [share_at(house, k, key, upper) - share_at(house, k, key, lower)]


def until_view(house, k, key, share):
    in_range = is_layer(k) and is_bearer_key(key) and is_some_units(share)
    refusal = bearer_refusal(house, in_range, k, key)
    if refusal != NO_REFUSAL:
        return [refusal]
    bearer = bearer_of(house, k, key)
    if bearer.most < share:
        return [MORE_THAN_MOST]
    return [room_ahead(house, k) + place_of(bearers_of(house, k), bearer, share)]


def check_view(house, k, units, given):
    refusal = event_refusal(house, is_layer(k) and is_loss(units) and is_share_list(given))
    if refusal != NO_REFUSAL:
        return [refusal]
    bearers = bearers_of(house, k)
    if units > room_of(bearers):
        return [0]
    shares = shares_after(bearers, units)
    return [1 if given == [shares[key] for key in shares] else 0]
