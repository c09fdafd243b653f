"""Calls 0 to 10: what each answers and leaves behind, in every condition of a room."""

import unittest

from tests.helper import (
    ACCEPTED_IN, NIGHT, RECIPES, ask, back, begin, condition, due, extra, guest_in, guest_out, inspect, last,
    move, report, shut)

REFUSED = [-6]

# For each call on room 1: the conditions in which it's accepted, the answer, the condition then.
# In a condition that isn't named here the call is refused with -6.
ON_ONE_ROOM = (
    (guest_in(1), {"VI": ([0], "taken")}),
    (guest_out(1), {"taken": ([0], "VD")}),
    (shut(1), {"VD": ([0], "OO"), "VC": ([0], "OO"), "VI": ([0], "OO")}),
    (back(1), {"OO": ([0], "VD")}),
    (inspect(1, 1), {"VC": ([0], "VI")}),
    (inspect(1, 0), {"VC": ([0], "VD")}),
    (due(1, 600), {"VD": ([0], "VD"), "VC": ([0], "VC"), "VI": ([0], "VI")}),
    (due(1, 0), {"VD": ([0], "VD"), "VC": ([0], "VC"), "VI": ([0], "VI")}),
    (extra(1, 7), {name: ([0], name) for name in RECIPES}),
    (NIGHT, {name: ([0, 1], name) for name in RECIPES}),
    (report(1, 0, 0), {
        "VD": ([0, 0], "VD"), "VC": ([0, 0], "VC"), "VI": ([0, 0], "VI"), "taken": ([0, 1], "taken")}),
    (report(1, 1, 0), {
        "VD": ([0, 2], "VD"), "VC": ([0, 2], "VC"), "VI": ([0, 2], "VI"), "taken": ([0, 0], "taken")}),
    (report(1, 0, 1), {
        "VD": ([0, 0], "VC"), "VC": ([0, 0], "VC"), "VI": ([0, 0], "VI"), "taken": ([0, 1], "taken")}),
    (report(1, 1, 1), {
        "VD": ([0, 2], "VC"), "VC": ([0, 2], "VC"), "VI": ([0, 2], "VI"), "taken": ([0, 0], "taken")}),
    (report(1, 0, 2), {
        "VD": ([0, 0], "VD"), "VC": ([0, 0], "VC"), "VI": ([0, 0], "VI"), "taken": ([0, 1], "taken")}),
    (report(1, 1, 2), {
        "VD": ([0, 2], "VD"), "VC": ([0, 2], "VC"), "VI": ([0, 2], "VI"), "taken": ([0, 0], "taken")}),
)


class EveryCallInEveryCondition(unittest.TestCase):
    def test_recipes_bring_about_their_conditions(self):
        for name, recipe in RECIPES.items():
            with self.subTest(name):
                self.assertEqual(condition([begin(), *recipe(1)], 1), name)

    def test_calls_on_one_room(self):
        for call, accepted in ON_ONE_ROOM:
            for name, recipe in RECIPES.items():
                with self.subTest(call=call, condition=name):
                    calls = [begin(), *recipe(1), call]
                    answer, then = accepted.get(name, (REFUSED, name))
                    self.assertEqual(last(*calls), answer)
                    self.assertEqual(condition(calls, 1), then)

    def test_the_neighbours_stay_as_they_were(self):
        for call, accepted in ON_ONE_ROOM:
            for name, recipe in RECIPES.items():
                for beside, recipe_beside in RECIPES.items():
                    with self.subTest(call=call, condition=name, beside=beside):
                        calls = [begin(), *recipe_beside(0), *recipe_beside(2), *recipe(1), call]
                        self.assertEqual(condition(calls, 0), beside)
                        self.assertEqual(condition(calls, 2), beside)

    def test_move_from_every_condition_to_every_other(self):
        for name, recipe in RECIPES.items():
            for other, recipe_other in RECIPES.items():
                with self.subTest(first=name, second=other):
                    calls = [begin(), *recipe(0), *recipe_other(2), move(0, 2)]
                    good = name == "taken" and other == "VI"
                    self.assertEqual(last(*calls), [0] if good else REFUSED)
                    self.assertEqual(condition(calls, 0), "VD" if good else name)
                    self.assertEqual(condition(calls, 2), "taken" if good else other)

    def test_move_to_the_same_room_is_refused(self):
        for name, recipe in RECIPES.items():
            with self.subTest(name):
                calls = [begin(), *recipe(1), move(1, 1)]
                self.assertEqual(last(*calls), REFUSED)
                self.assertEqual(condition(calls, 1), name)


class Open(unittest.TestCase):
    def test_all_rooms_are_vacant_and_inspected(self):
        for rooms in (1, 2, 17, 30):
            self.assertEqual(last(begin(rooms)), [0])
            for room in range(rooms):
                self.assertEqual(condition([begin(rooms)], room), "VI")

    def test_there_are_just_so_many_rooms(self):
        for rooms in range(1, 30):
            self.assertEqual(ask(begin(rooms), guest_in(rooms - 1), guest_in(rooms)), [[0], [0], [-3]])

    def test_an_open_house_gives_way_to_a_new_one(self):
        for name, recipe in RECIPES.items():
            self.assertEqual(condition([begin(), *recipe(1), begin(2)], 1), "VI")

    def test_the_new_house_begins_on_day_0(self):
        self.assertEqual(
            ask(begin(), NIGHT, NIGHT, begin(), NIGHT), [[0], [0, 1], [0, 2], [0], [0, 1]])

    def test_the_new_house_has_its_own_number_of_rooms(self):
        self.assertEqual(
            ask(begin(2), extra(4, 1), begin(5), extra(4, 1), begin(4), extra(4, 1)),
            [[0], [-3], [0], [0], [0], [-3]])


class Night(unittest.TestCase):
    def test_answers_the_day_then(self):
        nights = ask(begin(), *[NIGHT] * 59)
        self.assertEqual(nights, [[0]] + [[0, day] for day in range(1, 60)])

    def test_a_cleaned_or_dirty_vacant_room_stays_so(self):
        self.assertEqual(condition([begin(), *RECIPES["VC"](1), NIGHT, NIGHT], 1), "VC")
        self.assertEqual(condition([begin(), *RECIPES["VD"](1), NIGHT, NIGHT], 1), "VD")


class Report(unittest.TestCase):
    def test_the_last_report_counts(self):
        self.assertEqual(
            ask(begin(), report(0, 1, 0), report(0, 0, 0), report(0, 1, 0), guest_in(0), report(0, 1, 0),
                report(0, 0, 0)),
            [[0], [0, 2], [0, 0], [0, 2], [0], [0, 0], [0, 1]])

    def test_nothing_and_declined_leave_a_dirty_room_dirty(self):
        for came in (0, 2):
            calls = [begin(), *RECIPES["VD"](1), report(1, 0, came)]
            self.assertEqual(condition(calls, 1), "VD")

    def test_inspected_stays_inspected_when_cleaned_again(self):
        self.assertEqual(ask(begin(), report(2, 0, 1), inspect(2, 1), guest_in(2)), [[0], [0, 0], [-6], [0]])


class OneRoom(unittest.TestCase):
    def test_numbers_that_are_no_rooms_may_be_above_the_last_room(self):
        self.assertEqual(
            ask(begin(1, 120, 120, 30), due(0, 1440), extra(0, 120), guest_in(0), report(0, 1, 2), guest_out(0),
                report(0, 1, 1), inspect(0, 1), guest_in(0)),
            [[0], [0], [0], [0], [0, 0], [0], [0, 2], [0], [0]])

    def test_there_is_nowhere_to_move(self):
        self.assertEqual(ask(begin(1), guest_in(0), move(0, 1), move(0, 0), guest_out(0)), [[0], [0], [-3], [-6], [0]])


class AGuestsDays(unittest.TestCase):
    def test_in_out_cleaned_inspected_and_in_again(self):
        self.assertEqual(
            ask(begin(), guest_in(0), NIGHT, report(0, 1, 2), guest_out(0), guest_in(0), report(0, 0, 1),
                guest_in(0), inspect(0, 0), inspect(0, 1), report(0, 0, 1), inspect(0, 1), guest_in(0)),
            [[0], [0], [0, 1], [0, 0], [0], [-6], [0, 0],
             [-6], [0], [-6], [0, 0], [0], [0]])

    def test_shut_and_back_need_cleaning_and_inspection(self):
        self.assertEqual(
            ask(begin(), shut(0), shut(0), report(0, 0, 1), due(0, 5), extra(0, 5), back(0), back(0), due(0, 5),
                report(0, 0, 1), inspect(0, 1), guest_in(0), due(0, 5), shut(0)),
            [[0], [0], [-6], [-6], [-6], [0], [0], [-6], [0],
             [0, 0], [0], [0], [-6], [-6]])

    def test_move_twice_leaves_two_rooms_dirty(self):
        calls = [begin(), guest_in(0), move(0, 1), move(1, 2)]
        self.assertEqual(ask(*calls), [[0]] * 4)
        self.assertEqual([condition(calls, room) for room in range(3)], ["VD", "VD", "taken"])


class TheTableItself(unittest.TestCase):
    def test_no_two_conditions_look_alike(self):
        self.assertEqual(len(set(ACCEPTED_IN.values())), len(ACCEPTED_IN))


if __name__ == "__main__":
    unittest.main()
