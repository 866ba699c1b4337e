"""The seven layers of the open event, and what they bear at a loss."""

from lossbook.limits import LAST_LAYER
from lossbook.units import Bearer
from lossbook.units import room_of
from lossbook.units import shares_after
from lossbook.units import taker_of

HOUSE_KEY = 0
# The layer and the key that are told of a unit behind the last layer.
NOBODY = (8, 0)


def other_members(house):
    """The members but the defaulter, by rising keys."""
    return [house.members[key] for key in sorted(house.members) if key != house.defaulter.key]


def bearers_of(house, k):
    """The bearers of layer k, by rising keys."""
    if k == 1:
        return [Bearer(house.defaulter.key, 1, house.defaulter.margin)]
    if k == 2:
        return [Bearer(house.defaulter.key, 1, house.defaulter.fund)]
    if k == 3:
        return [Bearer(HOUSE_KEY, 1, house.first)]
    if k == 7:
        return [Bearer(HOUSE_KEY, 1, house.last)]
    return [Bearer(member.key, member.weight, most_of_member(house, k, member)) for member in other_members(house)]


def most_of_member(house, k, member):
    if k == 4:
        return member.fund
    if k == 5:
        return house.multiple * member.fund
    return member.gain


def bearer_of(house, k, key):
    """The bearer of that key in layer k, or None."""
    for bearer in bearers_of(house, k):
        if bearer.key == key:
            return bearer
    return None


def room_at(house, k):
    return room_of(bearers_of(house, k))


def room_ahead(house, k):
    """The room of all the layers ahead of layer k."""
    return sum([room_at(house, ahead) for ahead in range(1, k)])


def borne_at(house, k, loss):
    """What layer k bears at the loss."""
    return min(max(loss - room_ahead(house, k), 0), room_at(house, k))


def covered_at(house, loss):
    """What all the layers bear together at the loss."""
    return min(loss, room_ahead(house, LAST_LAYER + 1))


def uncovered_at(house, loss):
    return loss - covered_at(house, loss)


def shares_at(house, k, loss):
    """The share in layer k of each bearer's key at the loss, by rising keys."""
    return shares_after(bearers_of(house, k), borne_at(house, k, loss))


def share_at(house, k, key, loss):
    """The share in layer k of one bearer's key at the loss."""
    return shares_at(house, k, loss)[key]


def taker_of_unit(house, unit):
    """The layer and the key of the unit's bearer."""
    place = unit
    for k in range(1, LAST_LAYER + 1):
        bearers = bearers_of(house, k)
        room = room_of(bearers)
        if place <= room:
            return (k, taker_of(bearers, place))
        place = place - room
    return NOBODY
