"""The calls that tell what is held and borne; each gives back the list of numbers that it answers."""

from lossbook.layers import HOUSE_KEY
from lossbook.layers import bearer_of
from lossbook.layers import bearers_of
from lossbook.layers import borne_at
from lossbook.layers import room_at
from lossbook.layers import share_at
from lossbook.layers import shares_at
from lossbook.limits import LAST_LAYER
from lossbook.limits import is_bearer_key
from lossbook.limits import is_layer
from lossbook.refusals import NO_MEMBER
from lossbook.refusals import NO_REFUSAL
from lossbook.refusals import bearer_refusal
from lossbook.refusals import event_refusal
from lossbook.units import total_weight


def layer_view(house, k):
    refusal = event_refusal(house, is_layer(k))
    if refusal != NO_REFUSAL:
        return [refusal]
    return [room_at(house, k), borne_at(house, k, house.loss)]


def share_view(house, k, key):
    refusal = bearer_refusal(house, is_layer(k) and is_bearer_key(key), k, key)
    if refusal != NO_REFUSAL:
        return [refusal]
    return [share_at(house, k, key, house.loss)]


def shares_view(house, k):
    refusal = event_refusal(house, is_layer(k))
    if refusal != NO_REFUSAL:
        return [refusal]
    shares = shares_at(house, k, house.loss)
    answered = [len(shares)]
    for key, share in shares.items():
        answered.append(key)
        answered.append(share)
    return answered


def person_view(house, key):
    refusal = event_refusal(house, is_bearer_key(key))
    if refusal != NO_REFUSAL:
        return [refusal]
    if key != HOUSE_KEY and key not in house.members:
        return [NO_MEMBER]
    # In the layers where the key bears nothing it may be no bearer at all.
    return [sum([shares_at(house, k, house.loss).get(key, 0) for k in range(1, LAST_LAYER + 1)])]


def fair_view(house, k, key):
    refusal = bearer_refusal(house, is_layer(k) and is_bearer_key(key), k, key)
    if refusal != NO_REFUSAL:
        return [refusal]
    return [share_at(house, k, key, house.loss), fair_share(house, k, key)]


def fair_share(house, k, key):
    """What the bearer would have if the layer's units went by weights alone, rounded down."""
    weights = total_weight(bearers_of(house, k))
    if weights == 0:
        return 0
    return borne_at(house, k, house.loss) * bearer_of(house, k, key).weight // weights


def heaps_view(house):
    members = [house.members[key] for key in house.members]
    margins = sum([member.margin for member in members])
    funds = sum([member.fund for member in members])
    gains = sum([member.gain for member in members])
    return [margins, funds, gains, house.first, house.last, house.called, house.unpaid]


def members_view(house):
    return [len(house.members)] + sorted(house.members)
