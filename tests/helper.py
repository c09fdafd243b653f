"""What the tests share: calls by name, answers one by one, a room's condition."""

from roomcodes.house import answers

FAR = 10 ** 18


def begin(rooms=3, heavy=30, light=20, check=5):
    return [0, rooms, heavy, light, check]


def guest_in(room):
    return [1, room]


def guest_out(room):
    return [2, room]


def move(room, other):
    return [3, room, other]


NIGHT = [4]


def report(room, seen, came):
    return [5, room, seen, came]


def inspect(room, passed):
    return [6, room, passed]


def shut(room):
    return [7, room]


def back(room):
    return [8, room]


def due(room, minute):
    return [9, room, minute]


def extra(room, minutes):
    return [10, room, minutes]


def ask(*calls):
    """The answer to each call, a list each, all on one new object."""
    told = answers([number for call in calls for number in call])
    parted = []
    at = 0
    while at < len(told):
        behind = at + 1 + told[at]
        if told[at] < 1 or behind > len(told):
            raise AssertionError(f"not as many numbers as told: {told}")
        parted.append(told[at + 1:behind])
        at = behind
    if len(parted) != len(calls):
        raise AssertionError(f"{len(calls)} calls, but {len(parted)} answers: {told}")
    return parted


def last(*calls):
    return ask(*calls)[-1]


# Calls that bring a room of an inspected house into each condition that the
# answers of the calls 0 to 10 tell apart ("taken" is OD and OC together).
RECIPES = {
    "VD": lambda room: [guest_in(room), guest_out(room)],
    "VC": lambda room: [guest_in(room), guest_out(room), report(room, 0, 1)],
    "VI": lambda room: [],
    "taken": lambda room: [guest_in(room)],
    "OO": lambda room: [shut(room)],
}

# Whether in, out, back, inspect and shut are accepted in each condition.
ACCEPTED_IN = {
    "VD": (False, False, False, False, True),
    "VC": (False, False, False, True, True),
    "VI": (True, False, False, False, True),
    "taken": (False, True, False, False, False),
    "OO": (False, False, True, False, False),
}


def condition(calls, room):
    """The room's condition behind these calls, as later calls show it."""
    probes = (guest_in(room), guest_out(room), back(room), inspect(room, 1), shut(room))
    accepted = tuple(last(*calls, probe) == [0] for probe in probes)
    for name, expected in ACCEPTED_IN.items():
        if accepted == expected:
            return name
    raise AssertionError(f"no condition accepts just {accepted}")
