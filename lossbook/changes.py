"""The calls that change the house; each gives back the list of numbers that it answers."""

from lossbook.layers import borne_at
from lossbook.layers import covered_at
from lossbook.layers import other_members
from lossbook.layers import shares_at
from lossbook.layers import uncovered_at
from lossbook.limits import MOST_LOSS
from lossbook.limits import MOST_MEMBERS
from lossbook.limits import is_member_key
from lossbook.limits import is_money
from lossbook.limits import is_multiple
from lossbook.limits import is_some_units
from lossbook.limits import is_weight
from lossbook.refusals import EVENT_IS_OPEN
from lossbook.refusals import LOSS_OUT_OF_RANGE
from lossbook.refusals import MEMBER_EXISTS
from lossbook.refusals import NO_EVENT
from lossbook.refusals import NO_MEMBER
from lossbook.refusals import OUT_OF_RANGE
from lossbook.refusals import TOO_MANY_MEMBERS
from lossbook.state import Member

MARGIN = 1
FUND = 2
GAIN = 3
WEIGHT = 4


def add_member(house, key, margin, fund, gain, weight):
    all_money = is_money(margin) and is_money(fund) and is_money(gain)
    if not (is_member_key(key) and all_money and is_weight(weight)):
        return [OUT_OF_RANGE]
    if house.defaulter is not None:
        return [EVENT_IS_OPEN]
    if key in house.members:
        return [MEMBER_EXISTS]
    if len(house.members) == MOST_MEMBERS:
        return [TOO_MANY_MEMBERS]
    house.members[key] = Member(key, margin, fund, gain, weight)
    return [0]


def set_house(house, first, last, multiple):
    if not (is_money(first) and is_money(last) and is_multiple(multiple)):
        return [OUT_OF_RANGE]
    if house.defaulter is not None:
        return [EVENT_IS_OPEN]
    house.first = first
    house.last = last
    house.multiple = multiple
    return [0]


def change_member(house, key, what, amount):
    if not (is_member_key(key) and is_change(what, amount)):
        return [OUT_OF_RANGE]
    if house.defaulter is not None:
        return [EVENT_IS_OPEN]
    if key not in house.members:
        return [NO_MEMBER]
    set_value(house.members[key], what, amount)
    return [0]


def is_change(what, amount):
    if what == WEIGHT:
        return is_weight(amount)
    return MARGIN <= what <= GAIN and is_money(amount)


def set_value(member, what, amount):
    if what == MARGIN:
        member.margin = amount
    elif what == FUND:
        member.fund = amount
    elif what == GAIN:
        member.gain = amount
    else:
        member.weight = amount


def open_event(house, key):
    if not is_member_key(key):
        return [OUT_OF_RANGE]
    if house.defaulter is not None:
        return [EVENT_IS_OPEN]
    if key not in house.members:
        return [NO_MEMBER]
    house.defaulter = house.members[key]
    house.loss = 0
    return [0]


def lose_units(house, amount):
    if not is_some_units(amount):
        return [OUT_OF_RANGE]
    if house.defaulter is None:
        return [NO_EVENT]
    loss = house.loss + amount
    if loss > MOST_LOSS:
        return [LOSS_OUT_OF_RANGE]
    borne_more = covered_at(house, loss) - covered_at(house, house.loss)
    house.loss = loss
    return [borne_more, uncovered_at(house, loss)]


def recover_units(house, amount):
    if not is_some_units(amount):
        return [OUT_OF_RANGE]
    if house.defaulter is None:
        return [NO_EVENT]
    loss = house.loss - amount
    if loss < 0:
        return [LOSS_OUT_OF_RANGE]
    uncovered_less = uncovered_at(house, house.loss) - uncovered_at(house, loss)
    borne_less = covered_at(house, house.loss) - covered_at(house, loss)
    house.loss = loss
    return [uncovered_less, borne_less]


def close_event(house):
    if house.defaulter is None:
        return [NO_EVENT]
    defaulter = house.defaulter
    uncovered = uncovered_at(house, house.loss)
    margin_left = defaulter.margin - borne_at(house, 1, house.loss)
    fund_left = defaulter.fund - borne_at(house, 2, house.loss)
    settle_members_and_pieces(house)
    house.unpaid += uncovered
    house.members.pop(defaulter.key)
    house.defaulter = None
    return [uncovered, margin_left, fund_left]


def settle_members_and_pieces(house):
    """Takes from the others and from the house what they bear."""
    # The layers hang on what is held, so all is counted before anything is taken.
    from_first = borne_at(house, 3, house.loss)
    from_funds = shares_at(house, 4, house.loss)
    called = borne_at(house, 5, house.loss)
    from_gains = shares_at(house, 6, house.loss)
    from_last = borne_at(house, 7, house.loss)
    for member in other_members(house):
        member.fund -= from_funds[member.key]
        member.gain -= from_gains[member.key]
    house.first -= from_first
    house.last -= from_last
    house.called += called
