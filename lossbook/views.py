"""The calls that change nothing; each gives back the list of numbers that it answers."""

from lossbook.layers import borne_at
from lossbook.layers import room_at
from lossbook.layers import shares_at
from lossbook.limits import is_bearer_key
from lossbook.limits import is_layer
from lossbook.refusals import NO_BEARER
from lossbook.refusals import NO_EVENT
from lossbook.refusals import OUT_OF_RANGE


def layer_view(house, k):
    if not is_layer(k):
        return [OUT_OF_RANGE]
    if house.defaulter is None:
        return [NO_EVENT]
    return [room_at(house, k), borne_at(house, k, house.loss)]


def share_view(house, k, key):
    if not (is_layer(k) and is_bearer_key(key)):
        return [OUT_OF_RANGE]
    if house.defaulter is None:
        return [NO_EVENT]
    shares = shares_at(house, k, house.loss)
    if key not in shares:
        return [NO_BEARER]
    return [shares[key]]


def shares_view(house, k):
    if not is_layer(k):
        return [OUT_OF_RANGE]
    if house.defaulter is None:
        return [NO_EVENT]
    shares = shares_at(house, k, house.loss)
    answered = [len(shares)]
    for key, share in shares.items():
        answered.append(key)
        answered.append(share)
    return answered
