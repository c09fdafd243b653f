"""A house and its rooms: the values they have, and what can be told from these."""

DIRTY = 0
CLEANED = 1
INSPECTED = 2

VD = 0
VC = 1
VI = 2
OD = 3
OC = 4
OO = 5

NOTHING_SEEN = 0
NOBODY_SEEN = 1
SOMEBODY_SEEN = 2

NOTHING_TODAY = 0
CLEANED_TODAY = 1
DECLINED_TODAY = 2

NO_DIFFERENCE = 0
TAKEN_BUT_NOBODY = 1
NOT_TAKEN_BUT_SOMEBODY = 2


class Room:
    def __init__(self):
        self.taken = False
        self.state = INSPECTED
        self.shut = False
        self.due = 0
        self.extra = 0
        self.seen = NOTHING_SEEN
        self.today = NOTHING_TODAY


class House:
    def __init__(self, how_many_rooms, heavy, light, check):
        self.rooms = [Room() for place in range(how_many_rooms)]
        self.heavy = heavy
        self.light = light
        self.check = check
        self.day = 0


class Task:
    def __init__(self, number, minutes, due):
        self.number = number
        self.minutes = minutes
        self.due = due


def forget_the_day(room):
    room.due = 0
    room.seen = NOTHING_SEEN
    room.today = NOTHING_TODAY


# The extra minutes are left alone: they belong to the room, not to its guest.
def make_vacated(room):
    room.taken = False
    room.state = DIRTY
    room.shut = False
    forget_the_day(room)


def make_filled(room):
    make_vacated(room)
    room.taken = True
    room.state = CLEANED


# A shut room is OO whatever else it is, so that is looked at first.
def code_of(room):
    if room.shut:
        return OO
    if room.taken:
        return OD if room.state == DIRTY else OC
    if room.state == DIRTY:
        return VD
    if room.state == CLEANED:
        return VC
    return VI


def difference_about(room):
    if room.taken and room.seen == NOBODY_SEEN:
        return TAKEN_BUT_NOBODY
    if not room.taken and room.seen == SOMEBODY_SEEN:
        return NOT_TAKEN_BUT_SOMEBODY
    return NO_DIFFERENCE


def minutes_of(house, room):
    if room.shut:
        return 0
    if room.state == DIRTY and room.taken:
        return 0 if room.today == DECLINED_TODAY else house.light + room.extra
    if room.state == DIRTY:
        return house.heavy + room.extra
    if room.state == CLEANED and not room.taken:
        return house.check
    return 0


def tasks_of(house):
    tasks = []
    for number, room in enumerate(house.rooms):
        minutes = minutes_of(house, room)
        if minutes != 0:
            tasks.append(Task(number, minutes, room.due))
    return tasks
