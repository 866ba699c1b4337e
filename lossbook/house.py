"""A line of calls on one new house, and what they answer."""

from lossbook.changes import add_member
from lossbook.changes import change_member
from lossbook.changes import close_event
from lossbook.changes import lose_units
from lossbook.changes import open_event
from lossbook.changes import recover_units
from lossbook.changes import set_house
from lossbook.state import House
from lossbook.views import layer_view
from lossbook.views import share_view
from lossbook.views import shares_view

# How many numbers follow each call's own number.
ARGUMENT_COUNTS = (5, 3, 3, 1, 1, 1, 0, 1, 2, 1)
LAST_CHANGE = 6


def answers(calls):
    """For each call, in order: how many numbers it answers, then these."""
    house = House()
    answered = []
    place = 0
    while place < len(calls):
        number = calls[place]
        end = place + 1 + ARGUMENT_COUNTS[number]
        numbers = answer_call(house, number, calls[place + 1:end])
        answered.append(len(numbers))
        answered.extend(numbers)
        place = end
    return answered


def answer_call(house, number, given):
    if number <= LAST_CHANGE:
        return answer_change(house, number, given)
    return answer_view(house, number, given)


def answer_change(house, number, given):
    if number == 0:
        return add_member(house, given[0], given[1], given[2], given[3], given[4])
    if number == 1:
        return set_house(house, given[0], given[1], given[2])
    if number == 2:
        return change_member(house, given[0], given[1], given[2])
    if number == 3:
        return open_event(house, given[0])
    if number == 4:
        return lose_units(house, given[0])
    if number == 5:
        return recover_units(house, given[0])
    return close_event(house)


def answer_view(house, number, given):
    if number == 7:
        return layer_view(house, given[0])
    if number == 8:
        return share_view(house, given[0], given[1])
    return shares_view(house, given[0])
