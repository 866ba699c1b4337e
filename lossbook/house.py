"""A line of calls on one new house, and what they answer."""

from lossbook.changes import add_member
from lossbook.changes import change_member
from lossbook.changes import close_event
from lossbook.changes import lose_units
from lossbook.changes import open_event
from lossbook.changes import recover_units
from lossbook.changes import set_house
from lossbook.state import House
from lossbook.unit_views import at_view
from lossbook.unit_views import between_view
from lossbook.unit_views import check_view
from lossbook.unit_views import next_view
from lossbook.unit_views import until_view
from lossbook.unit_views import who_view
from lossbook.views import fair_view
from lossbook.views import heaps_view
from lossbook.views import layer_view
from lossbook.views import members_view
from lossbook.views import person_view
from lossbook.views import share_view
from lossbook.views import shares_view

# How many numbers follow each call's own number; behind check's comes a list, and the last of them is its length.
ARGUMENT_COUNTS = (5, 3, 3, 1, 1, 1, 0, 1, 2, 1, 1, 1, 3, 3, 0, 4, 3, 0, 0, 2)
LAST_CHANGE = 6
FIRST_OF_UNITS = 11
CHECK = 16


def answers(calls):
    """For each call, in order: how many numbers it answers, then these."""
    house = House()
    answered = []
    place = 0
    while place < len(calls):
        end = end_of_call(calls, place)
        numbers = answer_call(house, calls[place], calls[place + 1:end])
        answered.append(len(numbers))
        answered.extend(numbers)
        place = end
    return answered


def end_of_call(calls, place):
    """Where the call behind this one begins."""
    end = place + 1 + ARGUMENT_COUNTS[calls[place]]
    if calls[place] == CHECK:
        return end + calls[end - 1]
    return end


def answer_call(house, number, given):
    if number <= LAST_CHANGE:
        return answer_change(house, number, given)
    if FIRST_OF_UNITS <= number <= CHECK:
        return answer_unit_view(house, number, given)
    return answer_view(house, number, given)


def answer_change(house, number, given):
    if number == 0:
        return add_member(house, given[0], given[1], given[2], given[3], given[4])
    if number == 1:
        return set_house(house, given[0], given[1], given[2])
    if number == 2:
        return change_member(house, given[0], given[1], given[2])
    if number == 3:
        return open_event(house, given[0])
    if number == 4:
        return lose_units(house, given[0])
    if number == 5:
        return recover_units(house, given[0])
    return close_event(house)


def answer_unit_view(house, number, given):
    if number == 11:
        return who_view(house, given[0])
    if number == 12:
        return at_view(house, given[0], given[1], given[2])
    if number == 13:
        return until_view(house, given[0], given[1], given[2])
    if number == 14:
        return next_view(house)
    if number == 15:
        return between_view(house, given[0], given[1], given[2], given[3])
    return check_view(house, given[0], given[1], given[3:])


def answer_view(house, number, given):
    if number == 7:
        return layer_view(house, given[0])
    if number == 8:
        return share_view(house, given[0], given[1])
    if number == 9:
        return shares_view(house, given[0])
    if number == 10:
        return person_view(house, given[0])
    if number == 17:
        return heaps_view(house)
    if number == 18:
        return members_view(house)
    return fair_view(house, given[0], given[1])
