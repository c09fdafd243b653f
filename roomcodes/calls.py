"""The calls on a house, one function each.

Each is handed the house and the call's numbers. These are within their ranges
and every room they name is there: whoever calls has looked at that before.
Each gives back what is answered, and changes nothing where it refuses.
"""

from roomcodes.rooms import CLEANED, DIRTY, INSPECTED, NOBODY_SEEN, SOMEBODY_SEEN, VC, VI
from roomcodes.rooms import CLEANED_TODAY, NOTHING_TODAY
from roomcodes.rooms import code_of, difference_about, forget_the_day, make_filled, make_vacated

ACCEPTED = 0
ROOM_NOT_AS_TOLD = -6


def guest_in(house, numbers):
    room = house.rooms[numbers[0]]
    if code_of(room) != VI:
        return [ROOM_NOT_AS_TOLD]
    make_filled(room)
    return [ACCEPTED]


def guest_out(house, numbers):
    room = house.rooms[numbers[0]]
    if not room.taken:
        return [ROOM_NOT_AS_TOLD]
    make_vacated(room)
    return [ACCEPTED]


def guest_moves(house, numbers):
    room = house.rooms[numbers[0]]
    other = house.rooms[numbers[1]]
    if not room.taken or code_of(other) != VI:
        return [ROOM_NOT_AS_TOLD]
    make_vacated(room)
    make_filled(other)
    return [ACCEPTED]


def night_passes(house, numbers):
    house.day = house.day + 1
    for room in house.rooms:
        forget_the_day(room)
        if room.taken:
            room.state = DIRTY
    return [ACCEPTED, house.day]


def maid_reports(house, numbers):
    room = house.rooms[numbers[0]]
    came = numbers[2]
    if room.shut:
        return [ROOM_NOT_AS_TOLD]
    room.seen = SOMEBODY_SEEN if numbers[1] == 1 else NOBODY_SEEN
    # A room that is inspected already is not put back to cleaned.
    if came == CLEANED_TODAY and room.state == DIRTY:
        room.state = CLEANED
    if came != NOTHING_TODAY:
        room.today = came
    return [ACCEPTED, difference_about(room)]


def room_inspected(house, numbers):
    room = house.rooms[numbers[0]]
    if code_of(room) != VC:
        return [ROOM_NOT_AS_TOLD]
    room.state = INSPECTED if numbers[1] == 1 else DIRTY
    return [ACCEPTED]


def room_shut(house, numbers):
    room = house.rooms[numbers[0]]
    if room.taken or room.shut:
        return [ROOM_NOT_AS_TOLD]
    make_vacated(room)
    room.shut = True
    return [ACCEPTED]


def room_back(house, numbers):
    room = house.rooms[numbers[0]]
    if not room.shut:
        return [ROOM_NOT_AS_TOLD]
    make_vacated(room)
    return [ACCEPTED]


def room_due(house, numbers):
    room = house.rooms[numbers[0]]
    if room.taken or room.shut:
        return [ROOM_NOT_AS_TOLD]
    room.due = numbers[1]
    return [ACCEPTED]


def room_extra(house, numbers):
    room = house.rooms[numbers[0]]
    room.extra = numbers[1]
    return [ACCEPTED]


CALLS = {
    1: guest_in,
    2: guest_out,
    3: guest_moves,
    4: night_passes,
    5: maid_reports,
    6: room_inspected,
    7: room_shut,
    8: room_back,
    9: room_due,
    10: room_extra,
}


def carry_out(house, number, numbers):
    return CALLS[number](house, numbers)
