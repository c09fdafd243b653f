"""The interface: a list of calls goes in, the list of their answers comes out."""

from roomcodes.calls import ACCEPTED, carry_out
from roomcodes.rooms import House

NOT_REFUSED = 0
OUT_OF_RANGE = -1
NO_HOUSE = -2
NO_SUCH_ROOM = -3

BEGIN_HOUSE = 0

# For each call the least and the greatest of each of its numbers, in order.
RANGES = {
    0: ((1, 30), (1, 120), (1, 120), (0, 30)),
    1: ((0, 29),),
    2: ((0, 29),),
    3: ((0, 29), (0, 29)),
    4: (),
    5: ((0, 29), (0, 1), (0, 2)),
    6: ((0, 29), (0, 1)),
    7: ((0, 29),),
    8: ((0, 29),),
    9: ((0, 29), (0, 1440)),
    10: ((0, 29), (0, 120)),
}

# How many of a call's numbers, from the first on, are rooms.
ROOMS_NAMED = {0: 0, 1: 1, 2: 1, 3: 2, 4: 0, 5: 1, 6: 1, 7: 1, 8: 1, 9: 1, 10: 1}


def all_in_range(number, numbers):
    for value, bounds in zip(numbers, RANGES[number]):
        if value < bounds[0] or value > bounds[1]:
            return False
    return True


def all_rooms_there(house, number, numbers):
    for room in numbers[:ROOMS_NAMED[number]]:
        if room >= len(house.rooms):
            return False
    return True


# These come before any refusal of the call's own, and in this order; a new house needs none before it.
def early_refusal(house, number, numbers):
    if not all_in_range(number, numbers):
        return OUT_OF_RANGE
    if number == BEGIN_HOUSE:
        return NOT_REFUSED
    if house is None:
        return NO_HOUSE
    if not all_rooms_there(house, number, numbers):
        return NO_SUCH_ROOM
    return NOT_REFUSED


def answers(calls):
    told = []
    house = None
    at = 0
    while at < len(calls):
        number = calls[at]
        behind = at + 1 + len(RANGES[number])
        numbers = calls[at + 1:behind]
        refusal = early_refusal(house, number, numbers)
        if refusal != NOT_REFUSED:
            answer = [refusal]
        elif number == BEGIN_HOUSE:
            house = House(numbers[0], numbers[1], numbers[2], numbers[3])
            answer = [ACCEPTED]
        else:
            answer = carry_out(house, number, numbers)
        told.append(len(answer))
        told.extend(answer)
        at = behind
    return told
