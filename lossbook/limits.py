"""The ranges within which the calls' arguments are not refused."""

MOST_MEMBERS = 12
MOST_KEY = 1000000000
MOST_MONEY = 1000000000000
MOST_WEIGHT = 1000000
MOST_MULTIPLE = 10
MOST_LOSS = 1000000000000000
LAST_LAYER = 7


def is_member_key(key):
    return 1 <= key <= MOST_KEY


def is_bearer_key(key):
    """Key 0 is the house's, which bears in some layers but is no member."""
    return 0 <= key <= MOST_KEY


def is_money(amount):
    return 0 <= amount <= MOST_MONEY


def is_weight(amount):
    return 0 <= amount <= MOST_WEIGHT


def is_multiple(amount):
    return 0 <= amount <= MOST_MULTIPLE


def is_some_units(amount):
    return 1 <= amount <= MOST_LOSS


def is_loss(amount):
    return 0 <= amount <= MOST_LOSS


def is_share_list(given):
    """A layer has no more bearers than there may be members."""
    return len(given) <= MOST_MEMBERS and all([is_loss(number) for number in given])


def is_layer(k):
    return 1 <= k <= LAST_LAYER
