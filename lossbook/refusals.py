"""The numbers that calls answer when they are refused, and the refusals that looks at an event have in common."""

from lossbook.layers import bearer_of

NO_REFUSAL = 0
OUT_OF_RANGE = -1
MEMBER_EXISTS = -2
MORE_THAN_MOST = -3
NO_MEMBER = -4
EVENT_IS_OPEN = -5
LOSS_OUT_OF_RANGE = -6
NO_EVENT = -7
NO_BEARER = -8
TOO_MANY_MEMBERS = -9


def event_refusal(house, in_range):
    """What refuses a look at the event, whose arguments are all in their ranges or not."""
    if not in_range:
        return OUT_OF_RANGE
    if house.defaulter is None:
        return NO_EVENT
    return NO_REFUSAL


def bearer_refusal(house, in_range, k, key):
    """What refuses a look at a bearer in layer k."""
    refusal = event_refusal(house, in_range)
    if refusal == NO_REFUSAL and bearer_of(house, k, key) is None:
        return NO_BEARER
    return refusal
