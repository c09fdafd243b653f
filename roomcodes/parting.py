"""The tasks' minutes parted among attendants, and the witness that it can't be done better.

Minutes are those of the tasks, one behind the other in the order of the tasks, none of them 0.
"""


# Whoever takes as many tasks as fit before the next one begins needs the fewest attendants.
def attendants_needed(minutes, most):
    needed = 1
    load = 0
    for amount in minutes:
        if load + amount > most:
            needed = needed + 1
            load = 0
        load = load + amount
    return needed


# Enough for so many attendants is every load from some number on, so the search may halve.
def least_greatest_load(minutes, how_many):
    least = max(minutes, default=0)
    greatest = sum(minutes)
    while least < greatest:
        middle = (least + greatest) // 2
        if attendants_needed(minutes, middle) <= how_many:
            greatest = middle
        else:
            least = middle + 1
    return least


def best_share(minutes, begin, most, behind):
    """The least sum of squares for the tasks from begin on, and where the first attendant's share ends.

    behind tells the same of the attendants behind the first one, for each task
    they may begin with. None: it can't be done with no load above most.
    """
    best = None
    load = 0
    for end in range(begin, len(minutes) + 1):
        if end > begin:
            load = load + minutes[end - 1]
        if load > most:
            break
        if behind[end] is not None:
            squares = load * load + behind[end][0]
            # Of equal sums the later end is taken: more tasks for the attendant who comes first.
            if best is None or squares <= best[0]:
                best = (squares, end)
    return best


def best_shares(minutes, how_many, most):
    """For 0, 1, .. how_many attendants: the best share from each task on, and from behind the last."""
    last = len(minutes)
    nobody = [None] * last + [(0, last)]
    table = [nobody]
    for attendant in range(how_many):
        behind = table[attendant]
        table.append([best_share(minutes, begin, most, behind) for begin in range(last + 1)])
    return table


def parting_told(minutes, how_many):
    """For each attendant the place of the first task taken, and the place behind the last one."""
    table = best_shares(minutes, how_many, least_greatest_load(minutes, how_many))
    shares = []
    begin = 0
    for attendant in range(how_many):
        end = table[how_many - attendant][begin][1]
        shares.append((begin, end))
        begin = end
    return shares


def first_place_reaching(minutes, begin, load):
    place = begin
    together = minutes[begin]
    while together < load:
        place = place + 1
        together = together + minutes[place]
    return place


# If no task has just the least greatest load, all have less, and a load of one minute less would
# leave some task to nobody: so there is always a next place until there are enough.
def witness_told(minutes, how_many):
    load = least_greatest_load(minutes, how_many)
    if load in minutes:
        return [minutes.index(load)] * (how_many + 1)
    places = [0]
    for attendant in range(how_many):
        places.append(first_place_reaching(minutes, places[attendant], load))
    return places


def is_witness(minutes, how_many, load, places):
    if len(places) != how_many + 1:
        return False
    for place in places:
        if place >= len(minutes):
            return False
    for place, following in zip(places, places[1:]):
        if following < place or sum(minutes[place:following + 1]) < load:
            return False
    return True
