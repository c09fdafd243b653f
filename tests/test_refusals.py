"""The ranges and their edges, the order of the refusals, and that a refusal changes nothing."""

import unittest

from tests.helper import (
    BOARD, COUNT, DIFFERENCES, FAR, NIGHT, RECIPES, WORK, ask, back, begin, bound, condition, due, extra, guest_in,
    guest_out, inspect, last, move, order, prove, report, resolve, show, shut, whole_house, with_tasks, write)

ROOM = (0, 29)
K = (1, 8)

# Each call: its name, the calls before it that make room 0 fit for it, numbers that are accepted
# then, and the range of each.
CALLS = (
    ("open", [], [0, 3, 30, 20, 5], [(1, 30), (1, 120), (1, 120), (0, 30)]),
    ("in", [], [1, 0], [ROOM]),
    ("out", [guest_in(0)], [2, 0], [ROOM]),
    ("move", [guest_in(0)], [3, 0, 1], [ROOM, ROOM]),
    ("report", [], [5, 0, 0, 0], [ROOM, (0, 1), (0, 2)]),
    ("inspect", RECIPES["VC"](0), [6, 0, 1], [ROOM, (0, 1)]),
    ("shut", [], [7, 0], [ROOM]),
    ("back", [shut(0)], [8, 0], [ROOM]),
    ("due", [], [9, 0, 600], [ROOM, (0, 1440)]),
    ("extra", [], [10, 0, 15], [ROOM, (0, 120)]),
    ("split", [], [12, 2], [K]),
    ("bound", RECIPES["VD"](0), [13, 2], [K]),
    ("prove", [], [14, 1, 0, 2, 0, 0], [K, (0, 10000)]),
    ("order", [], [15, 8, 1, 0], [K, (1, 8), (0, 1440)]),
    ("resolve", [report(0, 1, 0)], [17, 0, 1], [ROOM, (0, 1)]),
    ("room", [], [18, 0], [ROOM]),
)

# The calls that have no numbers, and the one that has a row alone.
WITHOUT_NUMBERS = (NIGHT, WORK, DIFFERENCES, COUNT, BOARD, write("VI VI VI"))


def with_number(call, place, value):
    changed = list(call)
    changed[place + 1] = value
    return changed


def outside(bounds):
    return (bounds[0] - 1, bounds[1] + 1, -FAR, FAR)


def every_number_outside():
    for name, before, call, ranges in CALLS:
        for place, bounds in enumerate(ranges):
            for value in outside(bounds):
                yield name, before, with_number(call, place, value)


def rooms_of(call):
    """The places in the call, counted behind its number, at which a room stands."""
    if call[0] in (0, 12, 13, 14, 15):
        return []
    return [0, 1] if call[0] == 3 else [0]


class Ranges(unittest.TestCase):
    def test_the_calls_are_accepted_as_they_stand_here(self):
        for name, before, call, ranges in CALLS:
            with self.subTest(name):
                self.assertEqual(last(begin(30), *before, call)[0], 0)

    def test_just_outside_and_far_outside(self):
        for name, before, call in every_number_outside():
            with self.subTest(name, call=call):
                self.assertEqual(last(begin(30), *before, call), [-1])

    def test_the_least_and_the_greatest_that_are_no_rooms(self):
        for name, before, call, ranges in CALLS:
            for place, bounds in enumerate(ranges):
                if place not in rooms_of(call):
                    for value in bounds:
                        with self.subTest(name, place=place, value=value):
                            self.assertEqual(last(begin(30), *before, with_number(call, place, value))[0], 0)

    def test_every_value_of_the_small_ranges(self):
        for came in (0, 1, 2):
            for seen in (0, 1):
                self.assertEqual(last(begin(), report(0, seen, came)), [0, 2 * seen])

    def test_the_greatest_room_is_29(self):
        self.assertEqual(last(begin(30), guest_in(29)), [0])
        self.assertEqual(last(begin(30), guest_in(29), guest_out(29)), [0])
        self.assertEqual(last(begin(30), guest_in(29), move(29, 0)), [0])
        self.assertEqual(last(begin(30), guest_in(0), move(0, 29)), [0])
        self.assertEqual(last(begin(30), report(29, 1, 0)), [0, 2])
        self.assertEqual(last(begin(30), *RECIPES["VC"](29), inspect(29, 1)), [0])
        self.assertEqual(last(begin(30), shut(29)), [0])
        self.assertEqual(last(begin(30), shut(29), back(29)), [0])
        self.assertEqual(last(begin(30), due(29, 1440)), [0])
        self.assertEqual(last(begin(30), extra(29, 120)), [0])
        self.assertEqual(last(begin(30), report(29, 1, 0), resolve(29, 1)), [0])
        self.assertEqual(last(begin(30), show(29)), [0, 2, 0, 0, 0, 0, 0])

    def test_every_value_of_k_and_of_who_is_right(self):
        for k in range(1, 9):
            for number in (12, 13):
                self.assertEqual(len(last(*with_tasks([1]), [number, k])), 3 + (2 * k if number == 12 else k + 1))
            self.assertEqual(last(*with_tasks([1]), prove(k, 1, [0] * (k + 1))), [0, 1])
            self.assertEqual(last(*with_tasks([1]), order(k, 1, 0)), [0, 0, 0, 2, 0, 1])
        for right in (0, 1):
            self.assertEqual(last(begin(), report(0, 1, 0), resolve(0, right)), [0])


class Rows(unittest.TestCase):
    """prove and write have a row, which comes with how many numbers it has."""

    def test_how_many_places(self):
        for how_many in (*range(0, 13), 50, 99, 100):
            with self.subTest(how_many):
                answers = ask(begin(), prove(8, 0, [0] * how_many), NIGHT)
                self.assertEqual(answers, [[0], [0, 0] if how_many <= 9 else [-1], [0, 1]])

    def test_nine_places_may_be_a_witness(self):
        self.assertEqual(last(*with_tasks([1]), prove(8, 1, [0] * 9)), [0, 1])

    def test_each_place_is_from_0_to_29(self):
        for how_many in (1, 2, 9):
            for at in range(how_many):
                for place in (-1, 30, FAR, -FAR):
                    places = [0] * how_many
                    places[at] = place
                    with self.subTest(places):
                        self.assertEqual(ask(begin(), prove(1, 0, places), NIGHT), [[0], [-1], [0, 1]])
                places[at] = 29
                self.assertEqual(ask(begin(), prove(1, 0, places), NIGHT), [[0], [0, 0], [0, 1]])

    def test_the_29th_place_may_be_a_tasks(self):
        self.assertEqual(last(*with_tasks([1] * 30), prove(1, 1, [29, 29])), [0, 1])
        self.assertEqual(last(*with_tasks([1] * 29), prove(1, 1, [29, 29])), [0, 0])
        self.assertEqual(last(*with_tasks([1] * 30), prove(1, 30, [0, 29])), [0, 1])

    def test_each_number_of_a_text_is_a_byte(self):
        for how_many in (1, 2, 3, 89, 100):
            for at in (0, how_many // 2, how_many - 1):
                for number, refusal in ((-1, -1), (256, -1), (FAR, -1), (-FAR, -1), (0, -5), (255, -5)):
                    text = [86] * how_many
                    text[at] = number
                    with self.subTest(text):
                        self.assertEqual(ask(begin(1), write(text), NIGHT), [[0], [refusal], [0, 1]])

    def test_a_wrong_text_with_a_number_that_is_no_byte(self):
        self.assertEqual(last(begin(1), write([86, 68, 32, 256])), [-1])
        self.assertEqual(last(begin(2), write([86, 68, -1, 86, 68])), [-1])

    def test_an_empty_row_is_followed_by_the_next_call(self):
        self.assertEqual(
            ask(begin(), prove(1, 0, []), write([]), NIGHT, write([]), prove(8, 10000, []), NIGHT),
            [[0], [0, 0], [-5], [0, 1], [-5], [0, 0], [0, 2]])

    def test_a_row_that_looks_like_calls(self):
        self.assertEqual(
            ask(begin(), prove(1, 0, [4, 4, 4, 21, 1]), write([4] * 3), prove(9, 0, [4] * 10), write([4] * 100), NIGHT),
            [[0], [0, 0], [-5], [-1], [-5], [0, 1]])

    def test_a_row_of_wrong_numbers_comes_with_wrong_numbers_before_it(self):
        self.assertEqual(last(begin(), prove(0, 0, [30])), [-1])
        self.assertEqual(last(begin(), prove(1, -1, [0, 0])), [-1])
        self.assertEqual(last(begin(), prove(9, 10001, [0] * 100)), [-1])


class OrderOfRefusals(unittest.TestCase):
    def test_out_of_range_before_no_house(self):
        for name, before, call in every_number_outside():
            with self.subTest(name, call=call):
                self.assertEqual(ask(call), [[-1]])

    def test_no_house(self):
        for name, before, call, ranges in CALLS:
            with self.subTest(name):
                self.assertEqual(ask(call), [[0] if name == "open" else [-2]])
        for call in WITHOUT_NUMBERS:
            with self.subTest(call):
                self.assertEqual(ask(call), [[-2]])

    def test_no_house_before_no_such_room(self):
        for name, before, call, ranges in CALLS:
            for place in rooms_of(call):
                with self.subTest(name, place=place):
                    self.assertEqual(ask(with_number(call, place, 29)), [[-2]])

    def test_no_house_behind_a_refused_open(self):
        self.assertEqual(ask(begin(0), NIGHT, begin(31), guest_in(0)), [[-1], [-2], [-1], [-2]])

    def test_no_such_room(self):
        for name, before, call, ranges in CALLS:
            for place in rooms_of(call):
                for room in (3, 29):
                    with self.subTest(name, place=place, room=room):
                        self.assertEqual(last(begin(3), *before, with_number(call, place, room)), [-3])

    def test_out_of_range_before_no_such_room(self):
        for call in (report(3, 2, 0), report(3, 0, 3), report(3, 0, -1), inspect(3, 2), due(3, 1441),
                     extra(3, 121), move(3, 30), move(-1, 3), move(30, 3), move(3, -1), resolve(3, 2), resolve(3, -1)):
            with self.subTest(call):
                self.assertEqual(last(begin(3), call), [-1])

    def test_out_of_range_before_a_room_not_as_told(self):
        for call in (report(0, 2, 0), report(0, 0, 3), inspect(0, 2), inspect(0, -1), due(0, 1441), due(0, -1),
                     resolve(0, 2), resolve(0, -1)):
            with self.subTest(call):
                self.assertEqual(last(begin(3), shut(0), call), [-1])

    def test_no_such_room_of_move_before_the_other_is_not_as_told(self):
        for recipe in RECIPES.values():
            self.assertEqual(last(begin(3), *recipe(0), move(0, 3)), [-3])
            self.assertEqual(last(begin(3), *recipe(0), move(3, 0)), [-3])

    def test_a_room_not_as_told(self):
        not_fit = (
            (guest_in(0), ("VD", "VC", "taken", "OO")),
            (guest_out(0), ("VD", "VC", "VI", "OO")),
            (report(0, 0, 0), ("OO",)),
            (inspect(0, 1), ("VD", "VI", "taken", "OO")),
            (inspect(0, 0), ("VD", "VI", "taken", "OO")),
            (shut(0), ("taken", "OO")),
            (back(0), ("VD", "VC", "VI", "taken")),
            (due(0, 60), ("taken", "OO")),
            (resolve(0, 0), tuple(RECIPES)),
            (resolve(0, 1), tuple(RECIPES)),
        )
        for call, names in not_fit:
            for name in names:
                with self.subTest(call=call, condition=name):
                    self.assertEqual(last(begin(), *RECIPES[name](0), call), [-6])


    def test_no_such_attendant(self):
        for k, attendant in ((1, 2), (1, 8), (4, 5), (7, 8)):
            with self.subTest(k=k, attendant=attendant):
                self.assertEqual(ask(order(k, attendant, 0)), [[-2]])
                self.assertEqual(last(begin(), order(k, attendant, 0)), [-3])
                self.assertEqual(last(begin(), order(k, attendant, 1440)), [-3])
                self.assertEqual(last(begin(), order(k, attendant, 1441)), [-1])
                self.assertEqual(last(begin(), order(k, attendant, -1)), [-1])
                self.assertEqual(last(begin(), order(k, k, 0)), [0, 0, 0, 0])
        for k in range(1, 9):
            self.assertEqual(last(begin(), order(k, 9, 0)), [-1])
            self.assertEqual(last(begin(), order(k, 0, 0)), [-1])
        self.assertEqual(last(begin(), order(9, 9, 0)), [-1])

    def test_of_bound(self):
        self.assertEqual(ask(bound(0), bound(1), begin(), bound(0), bound(9), bound(1), bound(8)),
                         [[-1], [-2], [0], [-1], [-1], [-8], [-8]])

    def test_of_write(self):
        self.assertEqual(
            ask(write([256]), write("XX"), write(""), begin(1), write([256]), write("XX"), write(""), write("VD")),
            [[-1], [-2], [-2], [0], [-1], [-5], [-5], [0]])

    def test_of_resolve(self):
        self.assertEqual(
            ask(resolve(30, 0), resolve(29, 0), begin(1), resolve(30, 0), resolve(0, 2), resolve(1, 0), resolve(0, 0)),
            [[-1], [-2], [0], [-1], [-1], [-3], [-6]])

    def test_of_prove(self):
        self.assertEqual(
            ask(prove(1, 0, [30, 30]), prove(1, 0, [29, 29]), begin(1), prove(1, 0, [30, 30]), prove(1, 0, [29, 29])),
            [[-1], [-2], [0], [-1], [0, 0]])


def bad_calls():
    """Calls that are refused with -1 or -3 in any house of three rooms."""
    calls = [call for name, before, call in every_number_outside()]
    for name, before, call, ranges in CALLS:
        for place in rooms_of(call):
            calls.append(with_number(call, place, 3))
    return calls


class RefusalsChangeNothing(unittest.TestCase):
    def test_every_room_is_as_before(self):
        names = list(RECIPES)
        before = [begin(len(names))]
        for room, name in enumerate(names):
            before.extend(RECIPES[name](room))
        refused = [call for call in bad_calls() if last(*before, call)[0] < 0]
        self.assertGreater(len(refused), 80)
        for at in range(0, len(refused), 30):
            calls = before + refused[at:at + 30]
            for room, name in enumerate(names):
                with self.subTest(room=name):
                    self.assertEqual(condition(calls, room), name)

    def test_the_day_is_as_before(self):
        for call in bad_calls():
            with self.subTest(call):
                self.assertEqual(ask(begin(3), NIGHT, call, NIGHT)[-1], [0, 2])

    def test_a_refused_open_leaves_the_house(self):
        for name, before, call in every_number_outside():
            if name == "open":
                with self.subTest(call):
                    self.assertEqual(
                        ask(begin(4), guest_in(3), NIGHT, call, guest_out(3), NIGHT, extra(4, 1)),
                        [[0], [0], [0, 1], [-1], [0], [0, 2], [-3]])

    def test_a_refused_move_leaves_both_rooms(self):
        calls = [begin(), guest_in(0), guest_in(1), move(0, 1), move(2, 2), move(0, 3)]
        self.assertEqual(ask(*calls)[3:], [[-6], [-6], [-3]])
        self.assertEqual([condition(calls, room) for room in range(3)], ["taken", "taken", "VI"])

    def test_everything_that_is_shown_is_as_before(self):
        before = [begin(3), extra(0, 7), write("VD OD VI"), NIGHT, due(0, 600), report(0, 1, 2), report(1, 0, 1)]
        shown = whole_house(3)
        others = [order(2, 3, 0), write(""), write("VI VI"), write("VI VI VI "), write("OO OO xx"), write([256]),
                  prove(1, 0, [0] * 10), prove(1, 0, [30]), resolve(2, 1), resolve(2, 0), guest_in(0), move(1, 0),
                  guest_out(2), inspect(0, 1), shut(1), back(2), due(1, 5)]
        for call in bad_calls() + others:
            told = ask(*before, *shown, call, *shown)[len(before):]
            with self.subTest(call):
                self.assertLess(told[len(shown)][0], 0)
                self.assertEqual(len(told[len(shown)]), 1)
                self.assertEqual(told[len(shown) + 1:], told[:len(shown)])

    def test_a_bound_without_tasks_leaves_everything(self):
        before = [begin(2), extra(1, 5), report(0, 1, 1), due(1, 60)]
        told = ask(*before, *whole_house(2), bound(3), *whole_house(2))[len(before):]
        self.assertEqual(told[6], [-8])
        self.assertEqual(told[7:], told[:6])


if __name__ == "__main__":
    unittest.main()
