"""What the tests share: calls by name, answers one by one, a room's condition, partings gone through one by one."""

import itertools

from roomcodes.house import answers

FAR = 10 ** 18


def begin(rooms=3, heavy=30, light=20, check=5):
    return [0, rooms, heavy, light, check]


def guest_in(room):
    return [1, room]


def guest_out(room):
    return [2, room]


def move(room, other):
    return [3, room, other]


NIGHT = [4]


def report(room, seen, came):
    return [5, room, seen, came]


def inspect(room, passed):
    return [6, room, passed]


def shut(room):
    return [7, room]


def back(room):
    return [8, room]


def due(room, minute):
    return [9, room, minute]


def extra(room, minutes):
    return [10, room, minutes]


WORK = [11]


def split(k):
    return [12, k]


def bound(k):
    return [13, k]


def prove(k, load, places):
    return [14, k, load, len(places), *places]


def order(k, attendant, beginning):
    return [15, k, attendant, beginning]


DIFFERENCES = [16]


def resolve(room, right):
    return [17, room, right]


def show(number):
    return [18, number]


COUNT = [19]
BOARD = [20]


def letters(text):
    return [ord(letter) for letter in text]


def write(text):
    """The text is a Python text, or a list of numbers as it stands."""
    numbers = letters(text) if isinstance(text, str) else list(text)
    return [21, len(numbers), *numbers]


def with_tasks(minutes):
    """Calls behind which every room is a vacant and dirty one, with these minutes (1 to 121 each)."""
    extras = [extra(number, amount - 1) for number, amount in enumerate(minutes)]
    return [begin(len(minutes), 1, 1, 0), *extras, write(" ".join(["VD"] * len(minutes)))]


def whole_house(rooms):
    """Calls that show all there is of a house with so many rooms."""
    return [show(number) for number in range(rooms)] + [COUNT, BOARD, DIFFERENCES, WORK]


def ask(*calls):
    """The answer to each call, a list each, all on one new object."""
    told = answers([number for call in calls for number in call])
    parted = []
    at = 0
    while at < len(told):
        behind = at + 1 + told[at]
        if told[at] < 1 or behind > len(told):
            raise AssertionError(f"not as many numbers as told: {told}")
        parted.append(told[at + 1:behind])
        at = behind
    if len(parted) != len(calls):
        raise AssertionError(f"{len(calls)} calls, but {len(parted)} answers: {told}")
    return parted


def last(*calls):
    return ask(*calls)[-1]


# Calls that bring a room of an inspected house into each condition in which the
# calls 0 to 10 are accepted or refused otherwise ("taken" is OD and OC together).
RECIPES = {
    "VD": lambda room: [guest_in(room), guest_out(room)],
    "VC": lambda room: [guest_in(room), guest_out(room), report(room, 0, 1)],
    "VI": lambda room: [],
    "taken": lambda room: [guest_in(room)],
    "OO": lambda room: [shut(room)],
}

# Whether in, out, back, inspect and shut are accepted in each condition.
ACCEPTED_IN = {
    "VD": (False, False, False, False, True),
    "VC": (False, False, False, True, True),
    "VI": (True, False, False, False, True),
    "taken": (False, True, False, False, False),
    "OO": (False, False, True, False, False),
}


def condition(calls, room):
    """The room's condition behind these calls, as later calls show it."""
    probes = (guest_in(room), guest_out(room), back(room), inspect(room, 1), shut(room))
    accepted = tuple(last(*calls, probe) == [0] for probe in probes)
    for name, expected in ACCEPTED_IN.items():
        if accepted == expected:
            return name
    raise AssertionError(f"no condition accepts just {accepted}")


def all_partings(tasks, k):
    """How many tasks each of k attendants takes, in every way."""
    for cuts in itertools.combinations_with_replacement(range(tasks + 1), k - 1):
        ends = (0, *cuts, tasks)
        yield tuple(ends[at + 1] - ends[at] for at in range(k))


def loads(minutes, parting):
    ends = [0, *itertools.accumulate(parting)]
    return [sum(minutes[ends[at]:ends[at + 1]]) for at in range(len(parting))]


def best_of_all(minutes, k):
    """The least greatest load and the parting told, straight by their words."""
    partings = [(parting, loads(minutes, parting)) for parting in all_partings(len(minutes), k)]
    least = min(max(load) for parting, load in partings)
    within = [(parting, load) for parting, load in partings if max(load) <= least]
    squares = min(sum(one * one for one in load) for parting, load in within)
    return least, max(parting for parting, load in within if sum(one * one for one in load) == squares)


def witness(minutes, k, least):
    """The witness told, straight by its words."""
    if least in minutes:
        return [minutes.index(least)] * (k + 1)
    places = [0]
    while len(places) < k + 1:
        before = places[-1]
        places.append(min(place for place in range(before, len(minutes))
                          if sum(minutes[before:place + 1]) >= least))
    return places
