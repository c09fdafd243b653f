"""The values of a house and its rooms that the answers of the calls 0 to 10 don't show yet."""

import unittest
from unittest import mock

from roomcodes.calls import carry_out
from roomcodes.house import answers
from roomcodes.rooms import House, code_of
from tests.helper import NIGHT, back, due, extra, guest_in, guest_out, inspect, move, report, shut

VD, VC, VI, OD, OC, OO = range(6)


def house_after(*calls):
    house = House(3, 30, 20, 5)
    for call in calls:
        answer = carry_out(house, call[0], call[1:])
        if answer[0] != 0:
            raise AssertionError(f"{call} was refused: {answer}")
    return house


def values(room):
    """Code, due, extra minutes, seen, today."""
    return (code_of(room), room.due, room.extra, room.seen, room.today)


# Calls behind which vacant room 0 has no value that is its zero value.
MARKED = [guest_in(0), guest_out(0), extra(0, 9), due(0, 600), report(0, 0, 2)]


class Values(unittest.TestCase):
    def after(self, *calls):
        return values(house_after(*calls).rooms[0])

    def test_a_new_house(self):
        house = house_after()
        self.assertEqual((house.heavy, house.light, house.check, house.day), (30, 20, 5, 0))
        self.assertEqual([values(room) for room in house.rooms], [(VI, 0, 0, 0, 0)] * 3)

    def test_the_house_is_made_with_the_numbers_in_their_order(self):
        with mock.patch("roomcodes.house.House") as made:
            answers([0, 3, 31, 22, 13])
        made.assert_called_once_with(3, 31, 22, 13)

    def test_report(self):
        self.assertEqual(self.after(report(0, 0, 0)), (VI, 0, 0, 1, 0))
        self.assertEqual(self.after(report(0, 1, 0)), (VI, 0, 0, 2, 0))
        self.assertEqual(self.after(*MARKED), (VD, 600, 9, 1, 2))
        self.assertEqual(self.after(*MARKED, report(0, 1, 1)), (VC, 600, 9, 2, 1))

    def test_report_of_nothing_leaves_what_came_before(self):
        self.assertEqual(self.after(*MARKED, report(0, 1, 0)), (VD, 600, 9, 2, 2))
        self.assertEqual(self.after(report(0, 0, 1), report(0, 0, 0)), (VI, 0, 0, 1, 1))

    def test_report_on_a_taken_room(self):
        self.assertEqual(self.after(guest_in(0), NIGHT, report(0, 1, 2)), (OD, 0, 0, 2, 2))
        self.assertEqual(self.after(guest_in(0), NIGHT, report(0, 1, 0)), (OD, 0, 0, 2, 0))
        self.assertEqual(self.after(guest_in(0), NIGHT, report(0, 1, 1)), (OC, 0, 0, 2, 1))

    def test_due_and_extra_again(self):
        self.assertEqual(self.after(*MARKED, due(0, 0)), (VD, 0, 9, 1, 2))
        self.assertEqual(self.after(*MARKED, due(0, 1440), extra(0, 120)), (VD, 1440, 120, 1, 2))
        self.assertEqual(self.after(*MARKED, extra(0, 0)), (VD, 600, 0, 1, 2))

    def test_inspect_keeps_the_rest(self):
        self.assertEqual(self.after(*MARKED, report(0, 0, 1), inspect(0, 1)), (VI, 600, 9, 1, 1))
        self.assertEqual(self.after(*MARKED, report(0, 0, 1), inspect(0, 0)), (VD, 600, 9, 1, 1))

    def test_filled(self):
        ready = [*MARKED, report(0, 1, 1), inspect(0, 1)]
        self.assertEqual(self.after(*ready, guest_in(0)), (OC, 0, 9, 0, 0))
        self.assertEqual(self.after(*ready, guest_in(2), move(2, 0)), (OC, 0, 9, 0, 0))

    def test_vacated(self):
        stay = [extra(0, 9), guest_in(0), report(0, 0, 1)]
        self.assertEqual(self.after(*stay, guest_out(0)), (VD, 0, 9, 0, 0))
        self.assertEqual(self.after(*stay, move(0, 1)), (VD, 0, 9, 0, 0))
        self.assertEqual(self.after(*MARKED, shut(0)), (OO, 0, 9, 0, 0))
        self.assertEqual(self.after(*MARKED, shut(0), extra(0, 8), back(0)), (VD, 0, 8, 0, 0))

    def test_night(self):
        self.assertEqual(self.after(*MARKED, NIGHT), (VD, 0, 9, 0, 0))
        self.assertEqual(self.after(*MARKED, report(0, 0, 1), NIGHT), (VC, 0, 9, 0, 0))
        self.assertEqual(self.after(due(0, 5), report(0, 1, 1), NIGHT), (VI, 0, 0, 0, 0))
        self.assertEqual(self.after(guest_in(0), report(0, 1, 1), NIGHT), (OD, 0, 0, 0, 0))
        self.assertEqual(self.after(extra(0, 9), shut(0), NIGHT), (OO, 0, 9, 0, 0))
        self.assertEqual(house_after(NIGHT, NIGHT).day, 2)

    def test_a_refusal_leaves_every_value(self):
        for before, refused in (
                (MARKED, [guest_in(0), guest_out(0), move(0, 1), inspect(0, 1), back(0)]),
                ([extra(0, 9), guest_in(0), NIGHT, report(0, 0, 2)],
                 [guest_in(0), move(0, 0), inspect(0, 0), shut(0), back(0), due(0, 5)]),
                ([extra(0, 9), shut(0)], [guest_in(0), guest_out(0), report(0, 1, 1), shut(0), due(0, 5)])):
            for call in refused:
                with self.subTest(call):
                    house = house_after(*before)
                    was = [values(room) for room in house.rooms]
                    self.assertEqual(carry_out(house, call[0], call[1:]), [-6])
                    self.assertEqual([values(room) for room in house.rooms], was)
                    self.assertEqual(house.day, house_after(*before).day)


if __name__ == "__main__":
    unittest.main()
