"""The calls on a house, one function each.

Each is handed the house and the call's numbers, behind them those of its row.
These are within their ranges and every room or attendant they name is there:
whoever calls has looked at that before.
Each gives back what is answered, and changes nothing where it refuses.
"""

from roomcodes.board import CODE_NAMES
from roomcodes.board import codes_in, give_code, text_of
from roomcodes.parting import is_witness, least_greatest_load, parting_told, witness_told
from roomcodes.rooms import CLEANED, DIRTY, INSPECTED, NOBODY_SEEN, SOMEBODY_SEEN, VC, VI
from roomcodes.rooms import CLEANED_TODAY, NO_DIFFERENCE, NOTHING_SEEN, NOTHING_TODAY
from roomcodes.rooms import code_of, difference_about, forget_the_day, make_filled, make_vacated, minutes_of, tasks_of

ACCEPTED = 0
TEXT_NOT_AS_TOLD = -5
ROOM_NOT_AS_TOLD = -6
NO_TASKS = -8


def row_of(numbers):
    return [len(numbers)] + numbers


def minutes_in_order(tasks):
    return [task.minutes for task in tasks]


def guest_in(house, numbers):
    room = house.rooms[numbers[0]]
    if code_of(room) != VI:
        return [ROOM_NOT_AS_TOLD]
    make_filled(room)
    return [ACCEPTED]


def guest_out(house, numbers):
    room = house.rooms[numbers[0]]
    if not room.taken:
        return [ROOM_NOT_AS_TOLD]
    make_vacated(room)
    return [ACCEPTED]


def guest_moves(house, numbers):
    room = house.rooms[numbers[0]]
    other = house.rooms[numbers[1]]
    if not room.taken or code_of(other) != VI:
        return [ROOM_NOT_AS_TOLD]
    make_vacated(room)
    make_filled(other)
    return [ACCEPTED]


def night_passes(house, numbers):
    house.day = house.day + 1
    for room in house.rooms:
        forget_the_day(room)
        if room.taken:
            room.state = DIRTY
    return [ACCEPTED, house.day]


def maid_reports(house, numbers):
    room = house.rooms[numbers[0]]
    came = numbers[2]
    if room.shut:
        return [ROOM_NOT_AS_TOLD]
    room.seen = SOMEBODY_SEEN if numbers[1] == 1 else NOBODY_SEEN
    # A room that is inspected already is not put back to cleaned.
    if came == CLEANED_TODAY and room.state == DIRTY:
        room.state = CLEANED
    if came != NOTHING_TODAY:
        room.today = came
    return [ACCEPTED, difference_about(room)]


def room_inspected(house, numbers):
    room = house.rooms[numbers[0]]
    if code_of(room) != VC:
        return [ROOM_NOT_AS_TOLD]
    room.state = INSPECTED if numbers[1] == 1 else DIRTY
    return [ACCEPTED]


def room_shut(house, numbers):
    room = house.rooms[numbers[0]]
    if room.taken or room.shut:
        return [ROOM_NOT_AS_TOLD]
    make_vacated(room)
    room.shut = True
    return [ACCEPTED]


def room_back(house, numbers):
    room = house.rooms[numbers[0]]
    if not room.shut:
        return [ROOM_NOT_AS_TOLD]
    make_vacated(room)
    return [ACCEPTED]


def room_due(house, numbers):
    room = house.rooms[numbers[0]]
    if room.taken or room.shut:
        return [ROOM_NOT_AS_TOLD]
    room.due = numbers[1]
    return [ACCEPTED]


def room_extra(house, numbers):
    room = house.rooms[numbers[0]]
    room.extra = numbers[1]
    return [ACCEPTED]


def work_told(house, numbers):
    tasks = tasks_of(house)
    pairs = []
    for task in tasks:
        pairs.extend([task.number, task.minutes])
    return [ACCEPTED, sum(minutes_in_order(tasks))] + row_of(pairs)


def split_told(house, numbers):
    how_many = numbers[0]
    minutes = minutes_in_order(tasks_of(house))
    pairs = []
    for share in parting_told(minutes, how_many):
        taken = minutes[share[0]:share[1]]
        pairs.extend([len(taken), sum(taken)])
    return [ACCEPTED, least_greatest_load(minutes, how_many)] + row_of(pairs)


def bound_told(house, numbers):
    how_many = numbers[0]
    minutes = minutes_in_order(tasks_of(house))
    if len(minutes) == 0:
        return [NO_TASKS]
    return [ACCEPTED, least_greatest_load(minutes, how_many)] + row_of(witness_told(minutes, how_many))


def witness_proved(house, numbers):
    minutes = minutes_in_order(tasks_of(house))
    proved = is_witness(minutes, numbers[0], numbers[1], numbers[2:])
    return [ACCEPTED, 1 if proved else 0]


def due_ones_first(tasks):
    due = [task for task in tasks if task.due != 0]
    others = [task for task in tasks if task.due == 0]
    return sorted(due, key=lambda task: (task.due, task.number)) + others


def order_told(house, numbers):
    tasks = tasks_of(house)
    shares = parting_told(minutes_in_order(tasks), numbers[0])
    share = shares[numbers[1] - 1]
    minute = numbers[2]
    late = []
    pairs = []
    for task in due_ones_first(tasks[share[0]:share[1]]):
        minute = minute + task.minutes
        pairs.extend([task.number, minute])
        if task.due != 0:
            late.append(minute - task.due)
    latest = [1, max(late)] if len(late) > 0 else [0, 0]
    return [ACCEPTED] + latest + row_of(pairs)


def differences_told(house, numbers):
    pairs = []
    for number, room in enumerate(house.rooms):
        difference = difference_about(room)
        if difference != NO_DIFFERENCE:
            pairs.extend([number, difference])
    return [ACCEPTED] + row_of(pairs)


def difference_resolved(house, numbers):
    room = house.rooms[numbers[0]]
    maid_is_right = numbers[1] == 1
    if difference_about(room) == NO_DIFFERENCE:
        return [ROOM_NOT_AS_TOLD]
    if maid_is_right and room.taken:
        make_vacated(room)
    elif maid_is_right:
        room.taken = True
        room.due = 0
    room.seen = NOTHING_SEEN
    return [ACCEPTED]


def room_told(house, numbers):
    room = house.rooms[numbers[0]]
    return [ACCEPTED, code_of(room), room.due, room.extra, room.seen, room.today, minutes_of(house, room)]


def codes_counted(house, numbers):
    codes = [code_of(room) for room in house.rooms]
    counts = [codes.count(code) for code in range(len(CODE_NAMES))]
    return [ACCEPTED, house.day] + row_of(counts)


def board_told(house, numbers):
    return [ACCEPTED] + row_of(text_of(house.rooms))


def board_written(house, numbers):
    codes = codes_in(numbers)
    if codes is None or len(codes) != len(house.rooms):
        return [TEXT_NOT_AS_TOLD]
    for room, code in zip(house.rooms, codes):
        give_code(room, code)
    return [ACCEPTED]


CALLS = {
    1: guest_in,
    2: guest_out,
    3: guest_moves,
    4: night_passes,
    5: maid_reports,
    6: room_inspected,
    7: room_shut,
    8: room_back,
    9: room_due,
    10: room_extra,
    11: work_told,
    12: split_told,
    13: bound_told,
    14: witness_proved,
    15: order_told,
    16: differences_told,
    17: difference_resolved,
    18: room_told,
    19: codes_counted,
    20: board_told,
    21: board_written,
}


def carry_out(house, number, numbers):
    return CALLS[number](house, numbers)
