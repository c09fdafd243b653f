"""The interface: a list of calls goes in, the list of their answers comes out."""

from roomcodes.calls import ACCEPTED, carry_out
from roomcodes.rooms import House

NOT_REFUSED = 0
OUT_OF_RANGE = -1
NO_HOUSE = -2
NOT_THERE = -3

BEGIN_HOUSE = 0
ORDER = 15

# For each call the least and the greatest of each of its numbers, in order.
RANGES = {
    0: ((1, 30), (1, 120), (1, 120), (0, 30)),
    1: ((0, 29),),
    2: ((0, 29),),
    3: ((0, 29), (0, 29)),
    4: (),
    5: ((0, 29), (0, 1), (0, 2)),
    6: ((0, 29), (0, 1)),
    7: ((0, 29),),
    8: ((0, 29),),
    9: ((0, 29), (0, 1440)),
    10: ((0, 29), (0, 120)),
    11: (),
    12: ((1, 8),),
    13: ((1, 8),),
    14: ((1, 8), (0, 10000)),
    15: ((1, 8), (1, 8), (0, 1440)),
    16: (),
    17: ((0, 29), (0, 1)),
    18: ((0, 29),),
    19: (),
    20: (),
    21: (),
}

# For each call with a row: how many numbers that has at the most, the least and the greatest of them.
ROWS = {14: (9, 0, 29), 21: (100, 0, 255)}

# How many of a call's numbers, from the first on, are rooms; of a call not named here none is.
ROOMS_NAMED = {1: 1, 2: 1, 3: 2, 5: 1, 6: 1, 7: 1, 8: 1, 9: 1, 10: 1, 17: 1, 18: 1}


def all_in_range(number, numbers):
    for value, bounds in zip(numbers, RANGES[number]):
        if value < bounds[0] or value > bounds[1]:
            return False
    return True


def row_as_told(number, row):
    if number not in ROWS:
        return True
    bounds = ROWS[number]
    if len(row) > bounds[0]:
        return False
    for value in row:
        if value < bounds[1] or value > bounds[2]:
            return False
    return True


def all_rooms_there(house, number, numbers):
    for room in numbers[:ROOMS_NAMED.get(number, 0)]:
        if room >= len(house.rooms):
            return False
    return True


def attendant_there(number, numbers):
    return number != ORDER or numbers[1] <= numbers[0]


# These come before any refusal of the call's own, and in this order; a new house needs none before it.
def early_refusal(house, number, numbers, row):
    if not all_in_range(number, numbers) or not row_as_told(number, row):
        return OUT_OF_RANGE
    if number == BEGIN_HOUSE:
        return NOT_REFUSED
    if house is None:
        return NO_HOUSE
    if not all_rooms_there(house, number, numbers) or not attendant_there(number, numbers):
        return NOT_THERE
    return NOT_REFUSED


# A call without a row has an empty one, which takes no place in the list.
def row_at(calls, number, at):
    if number not in ROWS:
        return []
    return calls[at + 1:at + 1 + calls[at]]


def answers(calls):
    told = []
    house = None
    at = 0
    while at < len(calls):
        number = calls[at]
        behind = at + 1 + len(RANGES[number])
        numbers = calls[at + 1:behind]
        row = row_at(calls, number, behind)
        if number in ROWS:
            behind = behind + 1 + len(row)
        refusal = early_refusal(house, number, numbers, row)
        if refusal != NOT_REFUSED:
            answer = [refusal]
        elif number == BEGIN_HOUSE:
            house = House(numbers[0], numbers[1], numbers[2], numbers[3])
            answer = [ACCEPTED]
        else:
            answer = carry_out(house, number, numbers + row)
        told.append(len(answer))
        told.extend(answer)
        at = behind
    return told
