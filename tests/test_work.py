"""The minutes of a room, the tasks, and work, split, bound and prove on ordinary inputs and at the edges."""

import itertools
import unittest

from tests.helper import (
    NIGHT, WORK, ask, back, begin, bound, due, extra, guest_in, guest_out, inspect, last, prove, report, resolve,
    show, shut, split, with_tasks, write)

# Behind these calls the tasks have 30, 20, 30, 5, 30 minutes.
EXAMPLE = [begin(5, 30, 20, 5), write("VD OD VD VC VD")]


class MinutesOfARoom(unittest.TestCase):
    def minutes(self, *calls):
        """Those of room 0 in a house of heavy 31, light 22, check 13; work and room tell the same."""
        told = ask(begin(1, 31, 22, 13), *calls, show(0), WORK)
        minutes = told[-2][6]
        self.assertEqual(told[-1], [0, minutes, 2, 0, minutes] if minutes else [0, 0, 0])
        return minutes

    def test_each_code_with_extra_minutes(self):
        for code, minutes in (("VD", 31 + 7), ("VC", 13), ("VI", 0), ("OD", 22 + 7), ("OC", 0), ("OO", 0)):
            with self.subTest(code):
                self.assertEqual(self.minutes(extra(0, 7), write(code)), minutes)
                self.assertEqual(self.minutes(write(code), extra(0, 7)), minutes)

    def test_each_code_without_extra_minutes(self):
        for code, minutes in (("VD", 31), ("VC", 13), ("VI", 0), ("OD", 22), ("OC", 0), ("OO", 0)):
            with self.subTest(code):
                self.assertEqual(self.minutes(write(code)), minutes)

    def test_declined_counts_only_while_taken_and_dirty(self):
        for code, minutes in (("VD", 31 + 7), ("VC", 13), ("VI", 0), ("OD", 0), ("OC", 0)):
            with self.subTest(code):
                self.assertEqual(self.minutes(extra(0, 7), write(code), report(0, 1, 2)), minutes)

    def test_declined_goes_with_the_night_but_not_with_a_report_of_nothing(self):
        self.assertEqual(self.minutes(write("OD"), report(0, 1, 2), report(0, 1, 0)), 0)
        self.assertEqual(self.minutes(write("OD"), report(0, 1, 2), NIGHT), 22)

    def test_declined_then_cleaned_and_the_other_way_round(self):
        self.assertEqual(self.minutes(write("OD"), report(0, 1, 2), report(0, 1, 1)), 0)
        self.assertEqual(self.minutes(write("OC"), report(0, 1, 1), report(0, 1, 2)), 0)

    def test_declined_while_vacant_then_taken_by_the_maids_word(self):
        self.assertEqual(self.minutes(write("VD"), report(0, 1, 2), resolve(0, 1)), 0)
        self.assertEqual(self.minutes(write("VD"), report(0, 1, 0), resolve(0, 1)), 22)

    def test_a_guest_comes_and_goes(self):
        self.assertEqual(self.minutes(), 0)
        self.assertEqual(self.minutes(guest_in(0)), 0)
        self.assertEqual(self.minutes(guest_in(0), NIGHT), 22)
        self.assertEqual(self.minutes(guest_in(0), NIGHT, report(0, 1, 1)), 0)
        self.assertEqual(self.minutes(guest_in(0), NIGHT, guest_out(0)), 31)
        self.assertEqual(self.minutes(guest_in(0), guest_out(0), report(0, 0, 1)), 13)
        self.assertEqual(self.minutes(guest_in(0), guest_out(0), report(0, 0, 1), inspect(0, 1)), 0)
        self.assertEqual(self.minutes(guest_in(0), guest_out(0), report(0, 0, 1), inspect(0, 0)), 31)

    def test_shut_and_back(self):
        self.assertEqual(self.minutes(extra(0, 9), shut(0)), 0)
        self.assertEqual(self.minutes(extra(0, 9), shut(0), back(0)), 40)

    def test_due_makes_no_task(self):
        self.assertEqual(self.minutes(due(0, 600)), 0)

    def test_a_check_of_0_minutes_makes_no_task(self):
        self.assertEqual(
            ask(begin(3, 30, 20, 0), write("VC VD VC"), show(0), WORK, split(2), bound(1), prove(1, 30, [0, 0]),
                prove(1, 0, [0, 1]))[2:],
            [[0, 1, 0, 0, 0, 0, 0], [0, 30, 2, 1, 30], [0, 30, 4, 1, 30, 0, 0], [0, 30, 2, 0, 0], [0, 1], [0, 0]])

    def test_only_checks_of_0_minutes_are_no_tasks_at_all(self):
        self.assertEqual(
            ask(begin(2, 30, 20, 0), write("VC VC"), WORK, split(1), bound(1))[2:],
            [[0, 0, 0], [0, 0, 2, 0, 0], [-8]])

    def test_the_greatest_minutes(self):
        calls = [begin(2, 120, 119, 30), extra(0, 120), extra(1, 120), write("VD OD")]
        self.assertEqual(last(*calls, WORK), [0, 479, 4, 0, 240, 1, 239])


class Work(unittest.TestCase):
    def test_the_example(self):
        self.assertEqual(last(*EXAMPLE, WORK), [0, 115, 10, 0, 30, 1, 20, 2, 30, 3, 5, 4, 30])

    def test_rooms_that_are_no_tasks_are_left_out(self):
        self.assertEqual(
            last(begin(6, 30, 20, 5), write("VI OD OC VC OO VD"), WORK), [0, 55, 6, 1, 20, 3, 5, 5, 30])

    def test_no_tasks(self):
        self.assertEqual(last(begin(), WORK), [0, 0, 0])


class Split(unittest.TestCase):
    def test_the_example(self):
        self.assertEqual(last(*EXAMPLE, split(2)), [0, 65, 4, 2, 50, 3, 65])

    def test_the_example_for_one_and_for_more_than_there_are_tasks(self):
        self.assertEqual(last(*EXAMPLE, split(1)), [0, 115, 2, 5, 115])
        self.assertEqual(
            last(*EXAMPLE, split(8)), [0, 30, 16, 1, 30, 1, 20, 1, 30, 1, 5, 1, 30, 0, 0, 0, 0, 0, 0])

    def test_the_least_sum_of_squares_is_taken(self):
        # 1 and 2, 5, nothing would do as well for the greatest load, but not for the squares.
        self.assertEqual(last(*with_tasks([1, 2, 5]), split(3)), [0, 5, 6, 1, 1, 1, 2, 1, 5])
        self.assertEqual(last(*with_tasks([5, 1, 1, 1, 1]), split(3)), [0, 5, 6, 1, 5, 2, 2, 2, 2])

    def test_of_equal_sums_the_first_takes_more_tasks(self):
        self.assertEqual(last(*with_tasks([1, 1, 1]), split(2)), [0, 2, 4, 2, 2, 1, 1])
        self.assertEqual(last(*with_tasks([1, 1, 1, 1, 1]), split(3)), [0, 2, 6, 2, 2, 2, 2, 1, 1])
        self.assertEqual(last(*with_tasks([7]), split(3)), [0, 7, 6, 1, 7, 0, 0, 0, 0])

    def test_where_they_differ_first_at_the_second_attendant(self):
        # 9 | 1 1 | 1 and 9 | 1 | 1 1 have equal sums.
        self.assertEqual(last(*with_tasks([9, 1, 1, 1]), split(3)), [0, 9, 6, 1, 9, 2, 2, 1, 1])

    def test_no_tasks(self):
        for k in range(1, 9):
            self.assertEqual(last(begin(), split(k)), [0, 0, 2 * k] + [0, 0] * k)


class Bound(unittest.TestCase):
    def test_the_example(self):
        self.assertEqual(last(*EXAMPLE, bound(2)), [0, 65, 3, 0, 2, 4])

    def test_the_first_task_with_just_the_least_greatest_load(self):
        self.assertEqual(last(*EXAMPLE, bound(8)), [0, 30, 9] + [0] * 9)
        self.assertEqual(last(*with_tasks([2, 9, 1, 9, 3]), bound(5)), [0, 9, 6] + [1] * 6)

    def test_one_attendant(self):
        self.assertEqual(last(*EXAMPLE, bound(1)), [0, 115, 2, 0, 4])
        self.assertEqual(last(*with_tasks([4]), bound(1)), [0, 4, 2, 0, 0])

    def test_no_tasks(self):
        for k in range(1, 9):
            self.assertEqual(last(begin(), bound(k)), [-8])
        self.assertEqual(last(begin(6), write("VI OC OO OC VI OO"), bound(3)), [-8])

    def test_no_tasks_after_the_last_is_done(self):
        self.assertEqual(
            ask(begin(1), write("VC"), bound(1), inspect(0, 1), bound(1))[2:], [[0, 5, 2, 0, 0], [0], [-8]])


class Prove(unittest.TestCase):
    def proved(self, k, load, places, calls=EXAMPLE):
        told = last(*calls, prove(k, load, places))
        self.assertEqual((len(told), told[0]), (2, 0))
        return told[1]

    def test_the_example(self):
        self.assertEqual(self.proved(2, 65, [0, 2, 4]), 1)
        self.assertEqual(self.proved(2, 66, [0, 2, 4]), 0)

    def test_less_is_witnessed_too(self):
        for load in (0, 1, 64):
            self.assertEqual(self.proved(2, load, [0, 2, 4]), 1)
        self.assertEqual(self.proved(2, 10000, [0, 2, 4]), 0)

    def test_another_number_of_places(self):
        for places in ([], [0], [0, 2], [0, 2, 4, 4], [0] * 9):
            self.assertEqual(self.proved(2, 0, places), 0)

    def test_both_ends_are_counted(self):
        self.assertEqual(self.proved(1, 80, [0, 2]), 1)
        self.assertEqual(self.proved(1, 81, [0, 2]), 0)

    def test_one_place_several_times(self):
        self.assertEqual(self.proved(3, 30, [2, 2, 2, 2]), 1)
        self.assertEqual(self.proved(3, 31, [2, 2, 2, 2]), 0)
        self.assertEqual(self.proved(3, 5, [3, 3, 3, 3]), 1)
        self.assertEqual(self.proved(3, 6, [3, 3, 3, 3]), 0)

    def test_a_place_less_than_the_one_before(self):
        self.assertEqual(self.proved(2, 0, [0, 2, 1]), 0)
        self.assertEqual(self.proved(2, 0, [2, 0, 4]), 0)
        self.assertEqual(self.proved(1, 0, [1, 0]), 0)

    def test_a_place_of_no_task(self):
        for place in (5, 6, 29):
            self.assertEqual(self.proved(2, 0, [0, 2, place]), 0)
            self.assertEqual(self.proved(1, 0, [place, place]), 0)
        self.assertEqual(self.proved(1, 0, [4, 4]), 1)

    def test_without_tasks_nothing_is_a_witness(self):
        for k in range(1, 9):
            self.assertEqual(self.proved(k, 0, [0] * (k + 1), [begin()]), 0)
        self.assertEqual(self.proved(1, 0, [], [begin()]), 0)

    def test_places_are_the_tasks_and_not_the_rooms(self):
        calls = [begin(4), write("OC VD VI VD")]
        self.assertEqual(self.proved(1, 60, [0, 1], calls), 1)
        self.assertEqual(self.proved(1, 0, [1, 3], calls), 0)

    def test_all_short_rows_of_places(self):
        minutes = [3, 1, 2]
        calls = with_tasks(minutes)
        for k in (1, 2):
            for how_many in range(4):
                rows = list(itertools.product(range(4), repeat=how_many))
                for load in range(8):
                    for at in range(0, len(rows), 50):
                        asked = rows[at:at + 50]
                        told = ask(*calls, *[prove(k, load, row) for row in asked])[len(calls):]
                        for row, answer in zip(asked, told):
                            with self.subTest(k=k, load=load, places=row):
                                self.assertEqual(answer, [0, self.by_the_words(minutes, k, load, row)])

    def by_the_words(self, minutes, k, load, row):
        fit = len(row) == k + 1 and max(row) < len(minutes) and list(row) == sorted(row)
        if not fit:
            return 0
        sums = [sum(minutes[place] for place in range(row[at], row[at + 1] + 1)) for at in range(k)]
        return int(min(sums) >= load)


if __name__ == "__main__":
    unittest.main()
