"""The numbers that calls answer when they are refused."""

OUT_OF_RANGE = -1
MEMBER_EXISTS = -2
NO_MEMBER = -4
EVENT_IS_OPEN = -5
LOSS_OUT_OF_RANGE = -6
NO_EVENT = -7
NO_BEARER = -8
TOO_MANY_MEMBERS = -9
