"""The ranges and their edges, the order of the refusals, and that a refusal changes nothing."""

import unittest

from tests.helper import (
    FAR, NIGHT, RECIPES, ask, back, begin, condition, due, extra, guest_in, guest_out, inspect, last, move,
    report, shut)

ROOM = (0, 29)

# Each call: its name, the calls before it that make room 0 fit for it, numbers that are accepted
# then, and the range of each.
CALLS = (
    ("open", [], [0, 3, 30, 20, 5], [(1, 30), (1, 120), (1, 120), (0, 30)]),
    ("in", [], [1, 0], [ROOM]),
    ("out", [guest_in(0)], [2, 0], [ROOM]),
    ("move", [guest_in(0)], [3, 0, 1], [ROOM, ROOM]),
    ("report", [], [5, 0, 0, 0], [ROOM, (0, 1), (0, 2)]),
    ("inspect", RECIPES["VC"](0), [6, 0, 1], [ROOM, (0, 1)]),
    ("shut", [], [7, 0], [ROOM]),
    ("back", [shut(0)], [8, 0], [ROOM]),
    ("due", [], [9, 0, 600], [ROOM, (0, 1440)]),
    ("extra", [], [10, 0, 15], [ROOM, (0, 120)]),
)


def with_number(call, place, value):
    changed = list(call)
    changed[place + 1] = value
    return changed


def outside(bounds):
    return (bounds[0] - 1, bounds[1] + 1, -FAR, FAR)


def every_number_outside():
    for name, before, call, ranges in CALLS:
        for place, bounds in enumerate(ranges):
            for value in outside(bounds):
                yield name, before, with_number(call, place, value)


def rooms_of(call):
    """The places in the call, counted behind its number, at which a room stands."""
    if call[0] == 0:
        return []
    return [0, 1] if call[0] == 3 else [0]


class Ranges(unittest.TestCase):
    def test_the_calls_are_accepted_as_they_stand_here(self):
        for name, before, call, ranges in CALLS:
            with self.subTest(name):
                self.assertEqual(last(begin(30), *before, call)[0], 0)

    def test_just_outside_and_far_outside(self):
        for name, before, call in every_number_outside():
            with self.subTest(name, call=call):
                self.assertEqual(last(begin(30), *before, call), [-1])

    def test_the_least_and_the_greatest_that_are_no_rooms(self):
        for name, before, call, ranges in CALLS:
            for place, bounds in enumerate(ranges):
                if place not in rooms_of(call):
                    for value in bounds:
                        with self.subTest(name, place=place, value=value):
                            self.assertEqual(last(begin(30), *before, with_number(call, place, value))[0], 0)

    def test_every_value_of_the_small_ranges(self):
        for came in (0, 1, 2):
            for seen in (0, 1):
                self.assertEqual(last(begin(), report(0, seen, came)), [0, 2 * seen])

    def test_the_greatest_room_is_29(self):
        self.assertEqual(last(begin(30), guest_in(29)), [0])
        self.assertEqual(last(begin(30), guest_in(29), guest_out(29)), [0])
        self.assertEqual(last(begin(30), guest_in(29), move(29, 0)), [0])
        self.assertEqual(last(begin(30), guest_in(0), move(0, 29)), [0])
        self.assertEqual(last(begin(30), report(29, 1, 0)), [0, 2])
        self.assertEqual(last(begin(30), *RECIPES["VC"](29), inspect(29, 1)), [0])
        self.assertEqual(last(begin(30), shut(29)), [0])
        self.assertEqual(last(begin(30), shut(29), back(29)), [0])
        self.assertEqual(last(begin(30), due(29, 1440)), [0])
        self.assertEqual(last(begin(30), extra(29, 120)), [0])


class OrderOfRefusals(unittest.TestCase):
    def test_out_of_range_before_no_house(self):
        for name, before, call in every_number_outside():
            with self.subTest(name, call=call):
                self.assertEqual(ask(call), [[-1]])

    def test_no_house(self):
        for name, before, call, ranges in CALLS:
            with self.subTest(name):
                self.assertEqual(ask(call), [[0] if name == "open" else [-2]])
        self.assertEqual(ask(NIGHT), [[-2]])

    def test_no_house_before_no_such_room(self):
        for name, before, call, ranges in CALLS:
            for place in rooms_of(call):
                with self.subTest(name, place=place):
                    self.assertEqual(ask(with_number(call, place, 29)), [[-2]])

    def test_no_house_behind_a_refused_open(self):
        self.assertEqual(ask(begin(0), NIGHT, begin(31), guest_in(0)), [[-1], [-2], [-1], [-2]])

    def test_no_such_room(self):
        for name, before, call, ranges in CALLS:
            for place in rooms_of(call):
                for room in (3, 29):
                    with self.subTest(name, place=place, room=room):
                        self.assertEqual(last(begin(3), *before, with_number(call, place, room)), [-3])

    def test_out_of_range_before_no_such_room(self):
        for call in (report(3, 2, 0), report(3, 0, 3), report(3, 0, -1), inspect(3, 2), due(3, 1441),
                     extra(3, 121), move(3, 30), move(-1, 3), move(30, 3), move(3, -1)):
            with self.subTest(call):
                self.assertEqual(last(begin(3), call), [-1])

    def test_out_of_range_before_a_room_not_as_told(self):
        for call in (report(0, 2, 0), report(0, 0, 3), inspect(0, 2), inspect(0, -1), due(0, 1441), due(0, -1)):
            with self.subTest(call):
                self.assertEqual(last(begin(3), shut(0), call), [-1])

    def test_no_such_room_of_move_before_the_other_is_not_as_told(self):
        for recipe in RECIPES.values():
            self.assertEqual(last(begin(3), *recipe(0), move(0, 3)), [-3])
            self.assertEqual(last(begin(3), *recipe(0), move(3, 0)), [-3])

    def test_a_room_not_as_told(self):
        not_fit = (
            (guest_in(0), ("VD", "VC", "taken", "OO")),
            (guest_out(0), ("VD", "VC", "VI", "OO")),
            (report(0, 0, 0), ("OO",)),
            (inspect(0, 1), ("VD", "VI", "taken", "OO")),
            (inspect(0, 0), ("VD", "VI", "taken", "OO")),
            (shut(0), ("taken", "OO")),
            (back(0), ("VD", "VC", "VI", "taken")),
            (due(0, 60), ("taken", "OO")),
        )
        for call, names in not_fit:
            for name in names:
                with self.subTest(call=call, condition=name):
                    self.assertEqual(last(begin(), *RECIPES[name](0), call), [-6])


def bad_calls():
    """Calls that are refused with -1 or -3 in any house of three rooms."""
    calls = [call for name, before, call in every_number_outside()]
    for name, before, call, ranges in CALLS:
        for place in rooms_of(call):
            calls.append(with_number(call, place, 3))
    return calls


class RefusalsChangeNothing(unittest.TestCase):
    def test_every_room_is_as_before(self):
        names = list(RECIPES)
        before = [begin(len(names))]
        for room, name in enumerate(names):
            before.extend(RECIPES[name](room))
        refused = [call for call in bad_calls() if last(*before, call)[0] < 0]
        self.assertGreater(len(refused), 80)
        for at in range(0, len(refused), 30):
            calls = before + refused[at:at + 30]
            for room, name in enumerate(names):
                with self.subTest(room=name):
                    self.assertEqual(condition(calls, room), name)

    def test_the_day_is_as_before(self):
        for call in bad_calls():
            with self.subTest(call):
                self.assertEqual(ask(begin(3), NIGHT, call, NIGHT)[-1], [0, 2])

    def test_a_refused_open_leaves_the_house(self):
        for name, before, call in every_number_outside():
            if name == "open":
                with self.subTest(call):
                    self.assertEqual(
                        ask(begin(4), guest_in(3), NIGHT, call, guest_out(3), NIGHT, extra(4, 1)),
                        [[0], [0], [0, 1], [-1], [0], [0, 2], [-3]])

    def test_a_refused_move_leaves_both_rooms(self):
        calls = [begin(), guest_in(0), guest_in(1), move(0, 1), move(2, 2), move(0, 3)]
        self.assertEqual(ask(*calls)[3:], [[-6], [-6], [-3]])
        self.assertEqual([condition(calls, room) for room in range(3)], ["taken", "taken", "VI"])


if __name__ == "__main__":
    unittest.main()
