"""differences and resolve: where desk and maid differ, and how it's put right."""

import unittest

from tests.helper import (
    BOARD, COUNT, DIFFERENCES, NIGHT, ask, begin, due, extra, guest_in, guest_out, inspect, last, letters, move,
    report, resolve, show, shut, whole_house, write)

VD, VC, VI, OD, OC, OO = range(6)
DESK, MAID = 0, 1


class Differences(unittest.TestCase):
    def test_nothing_seen(self):
        self.assertEqual(last(begin(6), write("VD VC VI OD OC OO"), DIFFERENCES), [0, 0])

    def test_nobody_seen(self):
        calls = [begin(5), write("VD VC VI OD OC"), *[report(room, 0, 0) for room in range(5)]]
        self.assertEqual(last(*calls, DIFFERENCES), [0, 4, 3, 1, 4, 1])

    def test_somebody_seen(self):
        calls = [begin(5), write("VD VC VI OD OC"), *[report(room, 1, 0) for room in range(5)]]
        self.assertEqual(last(*calls, DIFFERENCES), [0, 6, 0, 2, 1, 2, 2, 2])

    def test_both_kinds_in_the_order_of_the_rooms(self):
        calls = [begin(3), write("OC VD OD"), report(2, 0, 0), report(1, 1, 2), report(0, 0, 1)]
        self.assertEqual(last(*calls, DIFFERENCES), [0, 6, 0, 1, 1, 2, 2, 1])

    def test_what_was_seen_last_counts(self):
        self.assertEqual(last(begin(), report(0, 1, 0), report(0, 0, 0), DIFFERENCES), [0, 0])
        self.assertEqual(last(begin(), report(0, 0, 0), report(0, 1, 0), DIFFERENCES), [0, 2, 0, 2])

    def test_what_was_seen_is_forgotten(self):
        for call in (NIGHT, guest_in(0), shut(0), write("VI VI VI"), write("OC VI VI")):
            with self.subTest(call):
                self.assertEqual(last(begin(), report(0, 1, 0), call, DIFFERENCES), [0, 0])
        for call in (NIGHT, guest_out(0), move(0, 1)):
            with self.subTest(call):
                self.assertEqual(last(begin(), guest_in(0), report(0, 0, 0), call, DIFFERENCES), [0, 0])

    def test_what_was_seen_stays(self):
        for call in (due(0, 9), extra(0, 9), inspect(0, 1), inspect(0, 0)):
            with self.subTest(call):
                self.assertEqual(last(begin(1), write("VC"), report(0, 1, 0), call, DIFFERENCES), [0, 2, 0, 2])

    def test_all_thirty(self):
        calls = [begin(30), *[report(room, 1, 0) for room in range(30)]]
        self.assertEqual(
            last(*calls, DIFFERENCES), [0, 60] + [number for room in range(30) for number in (room, 2)])


class Resolve(unittest.TestCase):
    def resolved(self, code, seen, came, right, minute=0):
        """Room 1 of three behind resolve; its neighbours stay as they were."""
        before = [begin(3, 30, 20, 5), write(f"VC {code} OD"), extra(1, 9)]
        before += [due(1, minute)] if minute else []
        before += [report(0, 1, 0), report(2, 0, 2), report(1, seen, came)]
        told = ask(*before, show(0), show(2), DIFFERENCES, resolve(1, right), show(1), show(0), show(2), DIFFERENCES)
        self.assertEqual(told[-5], [0])
        self.assertEqual(told[-3:-1], told[-8:-6])
        self.assertEqual(told[-6], [0, 6, 0, 2, 1, 2 if seen else 1, 2, 1])
        self.assertEqual(told[-1], [0, 4, 0, 2, 2, 1])
        return told[-4][1:]

    def test_the_desk_is_right(self):
        for code, seen, number, minutes in (
                ("VD", 1, VD, 39), ("VC", 1, VC, 5), ("VI", 1, VI, 0), ("OD", 0, OD, 29), ("OC", 0, OC, 0)):
            with self.subTest(code):
                self.assertEqual(self.resolved(code, seen, 0, DESK), [number, 0, 9, 0, 0, minutes])

    def test_the_desk_is_right_and_the_rest_stays(self):
        self.assertEqual(self.resolved("VD", 1, 2, DESK, 600), [VD, 600, 9, 0, 2, 39])
        self.assertEqual(self.resolved("VD", 1, 1, DESK, 600), [VC, 600, 9, 0, 1, 5])
        self.assertEqual(self.resolved("OD", 0, 2, DESK), [OD, 0, 9, 0, 2, 0])

    def test_the_maid_is_right_about_a_taken_room(self):
        for code in ("OD", "OC"):
            for came in (0, 1, 2):
                with self.subTest(code, came=came):
                    self.assertEqual(self.resolved(code, 0, came, MAID), [VD, 0, 9, 0, 0, 39])

    def test_the_maid_is_right_about_a_vacant_room(self):
        for code, number, minutes in (("VD", OD, 29), ("VC", OC, 0), ("VI", OC, 0)):
            with self.subTest(code):
                self.assertEqual(self.resolved(code, 1, 0, MAID, 600), [number, 0, 9, 0, 0, minutes])

    def test_what_came_of_a_vacant_room_today_stays(self):
        self.assertEqual(self.resolved("VD", 1, 2, MAID, 600), [OD, 0, 9, 0, 2, 0])
        self.assertEqual(self.resolved("VD", 1, 1, MAID, 600), [OC, 0, 9, 0, 1, 0])
        self.assertEqual(self.resolved("VI", 1, 1, MAID), [OC, 0, 9, 0, 1, 0])

    def test_the_board_and_the_count_show_it(self):
        calls = [begin(2), report(0, 1, 0), resolve(0, MAID)]
        self.assertEqual(last(*calls, BOARD), [0, 5] + letters("OC VI"))
        self.assertEqual(last(*calls, COUNT), [0, 0, 6, 0, 0, 1, 0, 1, 0])
        calls = [begin(2), guest_in(1), report(1, 0, 0), resolve(1, MAID)]
        self.assertEqual(last(*calls, BOARD), [0, 5] + letters("VI VD"))
        self.assertEqual(last(*calls, COUNT), [0, 0, 6, 1, 0, 1, 0, 0, 0])

    def test_what_follows_a_room_taken_by_the_maids_word(self):
        calls = [begin(1), report(0, 1, 0), resolve(0, MAID)]
        self.assertEqual(
            ask(*calls, guest_in(0), due(0, 5), shut(0), report(0, 1, 0), guest_out(0), show(0))[3:],
            [[-6], [-6], [-6], [0, 0], [0], [0, VD, 0, 0, 0, 0, 30]])
        self.assertEqual(ask(*calls, NIGHT, show(0))[-1], [0, OD, 0, 0, 0, 0, 20])

    def test_where_they_do_not_differ(self):
        for code in ("VD", "VC", "VI", "OD", "OC", "OO"):
            for right in (DESK, MAID):
                with self.subTest(code, right=right):
                    self.assertEqual(last(begin(1), write(code), resolve(0, right)), [-6])
        for code in ("VD", "VC", "VI", "OD", "OC"):
            for right in (DESK, MAID):
                with self.subTest(code, right=right):
                    agreed = report(0, 0 if code[0] == "V" else 1, 2)
                    told = ask(begin(1), extra(0, 3), write(code), agreed, *whole_house(1), resolve(0, right),
                               *whole_house(1))
                    self.assertEqual(told[9], [-6])
                    self.assertEqual(told[10:], told[4:9])

    def test_not_twice(self):
        for right in (DESK, MAID):
            self.assertEqual(
                ask(begin(), report(0, 1, 0), resolve(0, right), resolve(0, right))[2:], [[0], [-6]])


if __name__ == "__main__":
    unittest.main()
