"""Lists of all calls in any order, against a second program that is written straight along the words.

It goes through all partings one by one and looks for nothing clever, so it's for small houses alone.
"""

import random
import unittest

from tests.helper import FAR, ask, best_of_all, letters, witness

CODES = ("VD", "VC", "VI", "OD", "OC", "OO")
ROOM, K = range(30), range(1, 9)
RANGES = {
    0: (range(1, 31), range(1, 121), range(1, 121), range(31)), 1: (ROOM,), 2: (ROOM,), 3: (ROOM, ROOM), 4: (),
    5: (ROOM, range(2), range(3)), 6: (ROOM, range(2)), 7: (ROOM,), 8: (ROOM,), 9: (ROOM, range(1441)),
    10: (ROOM, range(121)), 11: (), 12: (K,), 13: (K,), 14: (K, range(10001)), 15: (K, range(1, 9), range(1441)),
    16: (), 17: (ROOM, range(2)), 18: (ROOM,), 19: (), 20: (), 21: ()}


class Model:
    def __init__(self):
        self.rooms = None

    def call(self, call):
        number, how_many = call[0], len(RANGES[call[0]])
        numbers, row = call[1:how_many + 1], call[how_many + 2:]
        if any(one not in fit for one, fit in zip(numbers, RANGES[number])):
            return [-1]
        if number == 14 and (len(row) > 9 or any(one not in ROOM for one in row)):
            return [-1]
        if number == 21 and any(one not in range(256) for one in row):
            return [-1]
        if number != 0 and self.rooms is None:
            return [-2]
        named = numbers[:2] if number == 3 else numbers[:1] if number in (1, 2, 5, 6, 7, 8, 9, 10, 17, 18) else []
        if any(room >= len(self.rooms) for room in named) or number == 15 and numbers[1] > numbers[0]:
            return [-3]
        return getattr(self, f"call_{number}")(*numbers, *[row] * (number in (14, 21)))

    def code(self, room):
        here = self.rooms[room]
        if here["shut"]:
            return "OO"
        if here["taken"]:
            return "OD" if here["state"] == "D" else "OC"
        return "V" + here["state"]

    def anew(self, room, **values):
        self.rooms[room].update({"taken": 0, "state": "D", "shut": 0, "due": 0, "seen": 0, "today": 0, **values})

    def differ(self, room):
        return {(1, 1): 1, (0, 2): 2}.get((self.rooms[room]["taken"], self.rooms[room]["seen"]), 0)

    def minutes(self, room):
        declined = self.rooms[room]["today"] == 2
        spare = self.rooms[room]["extra"]
        return {"VD": self.heavy + spare, "OD": 0 if declined else self.light + spare, "VC": self.check}.get(
            self.code(room), 0)

    def tasks(self):
        return [(room, self.minutes(room)) for room in range(len(self.rooms)) if self.minutes(room) != 0]

    def row(self, pairs):
        flat = [one for pair in pairs for one in pair]
        return [len(flat), *flat]

    def call_0(self, rooms, heavy, light, check):
        self.heavy, self.light, self.check, self.day = heavy, light, check, 0
        self.rooms = [{"extra": 0} for room in range(rooms)]
        for room in range(rooms):
            self.anew(room, state="I")
        return [0]

    def call_1(self, room):
        return self.anew(room, taken=1, state="C") or [0] if self.code(room) == "VI" else [-6]

    def call_2(self, room):
        return self.anew(room) or [0] if self.rooms[room]["taken"] else [-6]

    def call_3(self, room, other):
        if not self.rooms[room]["taken"] or self.code(other) != "VI":
            return [-6]
        self.anew(room)
        self.anew(other, taken=1, state="C")
        return [0]

    def call_4(self):
        self.day += 1
        for here in self.rooms:
            here.update(due=0, seen=0, today=0)
            here["state"] = "D" if here["taken"] else here["state"]
        return [0, self.day]

    def call_5(self, room, seen, came):
        here = self.rooms[room]
        if here["shut"]:
            return [-6]
        here["seen"] = seen + 1
        here["state"] = "C" if came == 1 and here["state"] == "D" else here["state"]
        here["today"] = came or here["today"]
        return [0, self.differ(room)]

    def call_6(self, room, passed):
        if self.code(room) != "VC":
            return [-6]
        self.rooms[room]["state"] = "DI"[passed]
        return [0]

    def call_7(self, room):
        return self.anew(room, shut=1) or [0] if self.code(room)[0] == "V" else [-6]

    def call_8(self, room):
        return self.anew(room) or [0] if self.code(room) == "OO" else [-6]

    def call_9(self, room, minute):
        return self.rooms[room].update(due=minute) or [0] if self.code(room)[0] == "V" else [-6]

    def call_10(self, room, minutes):
        return self.rooms[room].update(extra=minutes) or [0]

    def call_11(self):
        return [0, sum(minutes for room, minutes in self.tasks()), *self.row(self.tasks())]

    def shares(self, k):
        """The least greatest load, and the tasks that each attendant takes."""
        tasks = self.tasks()
        least, parting = best_of_all([minutes for room, minutes in tasks], k)
        return least, [[tasks.pop(0) for task in range(taken)] for taken in parting]

    def call_12(self, k):
        least, shares = self.shares(k)
        return [0, least, *self.row((len(share), sum(minutes for room, minutes in share)) for share in shares)]

    def call_13(self, k):
        minutes = [minutes for room, minutes in self.tasks()]
        if not minutes:
            return [-8]
        least = self.shares(k)[0]
        return [0, least, k + 1, *witness(minutes, k, least)]

    def call_14(self, k, load, places):
        minutes = [minutes for room, minutes in self.tasks()]
        if len(places) != k + 1 or max(places) >= len(minutes):
            return [0, 0]
        steps = list(zip(places, places[1:]))
        return [0, int(all(one <= two and sum(minutes[one:two + 1]) >= load for one, two in steps))]

    def call_15(self, k, attendant, minute):
        ranked = sorted((self.rooms[room]["due"] or 9999, room, minutes)
                        for room, minutes in self.shares(k)[1][attendant - 1])
        done = [(room, minute + sum(one[2] for one in ranked[:at + 1])) for at, (by, room, took) in enumerate(ranked)]
        late = [end - self.rooms[room]["due"] for room, end in done if self.rooms[room]["due"]]
        return [0, *([1, max(late)] if late else [0, 0]), *self.row(done)]

    def call_16(self):
        return [0, *self.row((room, self.differ(room)) for room in range(len(self.rooms)) if self.differ(room))]

    def call_17(self, room, right):
        if not self.differ(room):
            return [-6]
        if right and self.rooms[room]["taken"]:
            self.anew(room)
        else:
            self.rooms[room].update(seen=0, **({"taken": 1, "due": 0} if right else {}))
        return [0]

    def call_18(self, room):
        here = self.rooms[room]
        return [0, CODES.index(self.code(room)), here["due"], here["extra"], here["seen"], here["today"],
                self.minutes(room)]

    def call_19(self):
        codes = [self.code(room) for room in range(len(self.rooms))]
        return [0, self.day, 6, *[codes.count(code) for code in CODES]]

    def call_20(self):
        text = letters(" ".join(self.code(room) for room in range(len(self.rooms))))
        return [0, len(text), *text]

    def call_21(self, text):
        codes = "".join(map(chr, text)).split(" ")
        if len(codes) != len(self.rooms) or any(code not in CODES for code in codes):
            return [-5]
        for room, code in enumerate(codes):
            by = self.rooms[room]["due"] if code[0] == "V" else 0
            self.anew(room, due=by, taken=int(code in ("OD", "OC")), shut=int(code == "OO"),
                      state="D" if code == "OO" else code[1])
        return [0]


def some_number(chance, fit, rooms):
    if chance.random() < 0.02:
        return chance.choice((fit[0] - 1, fit[-1] + 1, FAR, -FAR))
    if fit == ROOM and chance.random() < 0.97:
        return chance.randrange(rooms)
    return chance.choice((fit[0], fit[-1], chance.choice(fit), chance.choice(fit)))


def some_places(chance, k):
    if chance.random() < 0.1:
        return [chance.choice((0, 1, 29, 30, -1, FAR)) for place in range(chance.choice((0, 1, 2, 9, 10, 100)))]
    places = [chance.randrange(6) for place in range(min(max(k, 0), 8) + 1)]
    return sorted(places) if chance.random() < 0.8 else places


def some_text(chance, rooms):
    text = letters(" ".join(chance.choice(CODES) for room in range(rooms)))
    if chance.random() < 0.2:
        text[chance.randrange(len(text))] = chance.choice((32, 86, 118, 0, 255, 256, -1))
    return text if chance.random() < 0.9 else text[:-1]


def some_call(chance, number, rooms):
    numbers = [some_number(chance, fit, rooms) for fit in RANGES[number]]
    if number == 0:
        numbers[0] = rooms
    if number == 14:
        numbers[1] = chance.choice((numbers[1], chance.randrange(200)))
        row = some_places(chance, numbers[0])
        return [14, *numbers, len(row), *row]
    if number == 21:
        row = some_text(chance, rooms)
        return [21, len(row), *row]
    return [number, *numbers]


class AgainstTheModel(unittest.TestCase):
    def test_calls_in_any_order(self):
        chance = random.Random(11)
        refusals = {}
        for turn in range(600):
            rooms = chance.choice((1, 2, 3, 4, 5, 6))
            kinds = [*range(1, 22), 1, 4, 5, 5, 5, 6, 17, 17, 17]
            calls = [[0, rooms, chance.randint(1, 120), chance.randint(1, 120), chance.randint(0, 30)]]
            calls = calls if chance.random() < 0.95 else []
            while len(calls) < 60:
                # A second house now and then; it has as many rooms, so that the calls behind it fit.
                number = 0 if chance.random() < 0.01 else chance.choice(kinds)
                calls.append(some_call(chance, number, rooms))
            model = Model()
            for place, (call, answer) in enumerate(zip(calls, ask(*calls))):
                expected = model.call(call)
                refusals.setdefault(expected[0], set()).add(call[0])
                if answer != expected:
                    self.fail(f"{calls[:place + 1]}: {answer} for the last one, not {expected}")
        self.assertEqual(refusals[0], set(range(22)))
        self.assertEqual(refusals[-6], {1, 2, 3, 5, 6, 7, 8, 9, 17})
        self.assertEqual((refusals[-5], refusals[-8]), ({21}, {13}))
        self.assertEqual(refusals[-3], {1, 2, 3, 5, 6, 7, 8, 9, 10, 15, 17, 18})


if __name__ == "__main__":
    unittest.main()
