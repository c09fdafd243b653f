"""The values of the rooms and the day behind calls 0 to 10, as room and count show them."""

import unittest

from tests.helper import (
    COUNT, NIGHT, ask, back, begin, due, extra, guest_in, guest_out, inspect, last, move, report, show, shut)

VD, VC, VI, OD, OC, OO = range(6)

# Calls behind which vacant room 0 has no value that is its zero value.
MARKED = [guest_in(0), guest_out(0), extra(0, 9), due(0, 600), report(0, 0, 2)]


class Values(unittest.TestCase):
    def after(self, *calls):
        """Code, due, extra minutes, seen, today of room 0; every call is accepted."""
        told = ask(begin(), *calls, show(0))
        self.assertEqual([answer for answer in told if answer[0] != 0], [])
        self.assertEqual(len(told[-1]), 7)
        return tuple(told[-1][1:6])

    def test_a_new_house(self):
        self.assertEqual(
            ask(begin(3), show(0), show(1), show(2), COUNT),
            [[0]] + [[0, VI, 0, 0, 0, 0, 0]] * 3 + [[0, 0, 6, 0, 0, 3, 0, 0, 0]])

    def test_report(self):
        self.assertEqual(self.after(report(0, 0, 0)), (VI, 0, 0, 1, 0))
        self.assertEqual(self.after(report(0, 1, 0)), (VI, 0, 0, 2, 0))
        self.assertEqual(self.after(*MARKED), (VD, 600, 9, 1, 2))
        self.assertEqual(self.after(*MARKED, report(0, 1, 1)), (VC, 600, 9, 2, 1))

    def test_report_of_nothing_leaves_what_came_before(self):
        self.assertEqual(self.after(*MARKED, report(0, 1, 0)), (VD, 600, 9, 2, 2))
        self.assertEqual(self.after(report(0, 0, 1), report(0, 0, 0)), (VI, 0, 0, 1, 1))

    def test_report_on_a_taken_room(self):
        self.assertEqual(self.after(guest_in(0), NIGHT, report(0, 1, 2)), (OD, 0, 0, 2, 2))
        self.assertEqual(self.after(guest_in(0), NIGHT, report(0, 1, 0)), (OD, 0, 0, 2, 0))
        self.assertEqual(self.after(guest_in(0), NIGHT, report(0, 1, 1)), (OC, 0, 0, 2, 1))

    def test_due_and_extra_again(self):
        self.assertEqual(self.after(*MARKED, due(0, 0)), (VD, 0, 9, 1, 2))
        self.assertEqual(self.after(*MARKED, due(0, 1440), extra(0, 120)), (VD, 1440, 120, 1, 2))
        self.assertEqual(self.after(*MARKED, extra(0, 0)), (VD, 600, 0, 1, 2))

    def test_inspect_keeps_the_rest(self):
        self.assertEqual(self.after(*MARKED, report(0, 0, 1), inspect(0, 1)), (VI, 600, 9, 1, 1))
        self.assertEqual(self.after(*MARKED, report(0, 0, 1), inspect(0, 0)), (VD, 600, 9, 1, 1))

    def test_filled(self):
        ready = [*MARKED, report(0, 1, 1), inspect(0, 1)]
        self.assertEqual(self.after(*ready, guest_in(0)), (OC, 0, 9, 0, 0))
        self.assertEqual(self.after(*ready, guest_in(2), move(2, 0)), (OC, 0, 9, 0, 0))

    def test_vacated(self):
        stay = [extra(0, 9), guest_in(0), report(0, 0, 1)]
        self.assertEqual(self.after(*stay, guest_out(0)), (VD, 0, 9, 0, 0))
        self.assertEqual(self.after(*stay, move(0, 1)), (VD, 0, 9, 0, 0))
        self.assertEqual(self.after(*MARKED, shut(0)), (OO, 0, 9, 0, 0))
        self.assertEqual(self.after(*MARKED, shut(0), extra(0, 8), back(0)), (VD, 0, 8, 0, 0))

    def test_night(self):
        self.assertEqual(self.after(*MARKED, NIGHT), (VD, 0, 9, 0, 0))
        self.assertEqual(self.after(*MARKED, report(0, 0, 1), NIGHT), (VC, 0, 9, 0, 0))
        self.assertEqual(self.after(due(0, 5), report(0, 1, 1), NIGHT), (VI, 0, 0, 0, 0))
        self.assertEqual(self.after(guest_in(0), report(0, 1, 1), NIGHT), (OD, 0, 0, 0, 0))
        self.assertEqual(self.after(extra(0, 9), shut(0), NIGHT), (OO, 0, 9, 0, 0))
        self.assertEqual(last(begin(), NIGHT, NIGHT, COUNT)[1], 2)

    def test_a_refusal_leaves_every_value(self):
        for before, refused in (
                (MARKED, [guest_in(0), guest_out(0), move(0, 1), inspect(0, 1), back(0)]),
                ([extra(0, 9), guest_in(0), NIGHT, report(0, 0, 2)],
                 [guest_in(0), move(0, 0), inspect(0, 0), shut(0), back(0), due(0, 5)]),
                ([extra(0, 9), shut(0)], [guest_in(0), guest_out(0), report(0, 1, 1), shut(0), due(0, 5)])):
            for call in refused:
                with self.subTest(call):
                    shown = [show(0), show(1), show(2), COUNT]
                    told = ask(begin(), *before, *shown, call, *shown)
                    self.assertEqual(told[-5], [-6])
                    self.assertEqual(told[-4:], told[-9:-5])


if __name__ == "__main__":
    unittest.main()
