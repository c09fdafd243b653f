"""order: the tasks that are due first, the minutes at which they're done, and how late."""

import random
import unittest

from tests.helper import WORK, ask, begin, due, extra, last, order, split, with_tasks, write

# Four vacant and dirty rooms of 30 minutes each.
FOUR = [begin(4, 30, 20, 5), write("VD VD VD VD")]


class Order(unittest.TestCase):
    def test_none_due(self):
        self.assertEqual(last(*FOUR, order(1, 1, 0)), [0, 0, 0, 8, 0, 30, 1, 60, 2, 90, 3, 120])
        self.assertEqual(last(*FOUR, order(2, 2, 500)), [0, 0, 0, 4, 2, 530, 3, 560])

    def test_the_documents_example(self):
        example = [begin(5, 30, 20, 5), write("VD OD VD VC VD")]
        self.assertEqual(last(*example, order(2, 1, 0)), [0, 0, 0, 4, 0, 30, 1, 50])
        self.assertEqual(last(*example, order(2, 2, 0)), [0, 0, 0, 6, 2, 30, 3, 35, 4, 65])

    def test_some_due_and_some_not(self):
        calls = [*FOUR, due(3, 100), due(1, 200)]
        self.assertEqual(last(*calls, order(1, 1, 60)), [0, 1, -10, 8, 3, 90, 1, 120, 0, 150, 2, 180])

    def test_all_due(self):
        calls = [*FOUR, due(0, 400), due(1, 300), due(2, 200), due(3, 100)]
        self.assertEqual(last(*calls, order(1, 1, 0)), [0, 1, -70, 8, 3, 30, 2, 60, 1, 90, 0, 120])

    def test_due_at_equal_minutes(self):
        calls = [*FOUR, due(3, 100), due(1, 100), due(2, 99)]
        self.assertEqual(last(*calls, order(1, 1, 0)), [0, 1, -10, 8, 2, 30, 1, 60, 3, 90, 0, 120])

    def test_late_above_below_and_just_0(self):
        self.assertEqual(last(*FOUR, due(0, 29), order(4, 1, 0)), [0, 1, 1, 2, 0, 30])
        self.assertEqual(last(*FOUR, due(0, 30), order(4, 1, 0)), [0, 1, 0, 2, 0, 30])
        self.assertEqual(last(*FOUR, due(0, 31), order(4, 1, 0)), [0, 1, -1, 2, 0, 30])

    def test_the_greatest_and_the_least_late(self):
        calls = [*with_tasks([121] * 30), due(29, 1)]
        self.assertEqual(last(*calls, order(1, 1, 1440))[:5], [0, 1, 1440 + 121 - 1, 60, 29])
        self.assertEqual(last(begin(1, 1, 1, 0), write("VD"), due(0, 1440), order(1, 1, 0)), [0, 1, -1439, 2, 0, 1])
        rooms = [*with_tasks([121] * 30), *[due(room, 1) for room in range(28)]]
        self.assertEqual(last(*rooms, order(1, 1, 1440))[:3], [0, 1, 1440 + 28 * 121 - 1])

    def test_the_greatest_is_not_always_the_first_or_the_last(self):
        calls = [*FOUR, due(0, 100), due(1, 101), due(2, 102), due(3, 1000)]
        self.assertEqual(last(*calls, order(1, 1, 0))[:3], [0, 1, 90 - 102])
        calls = [*FOUR, due(0, 10), due(1, 1000), due(2, 1001)]
        self.assertEqual(last(*calls, order(1, 1, 0))[:3], [0, 1, 20])

    def test_only_the_attendants_own_tasks_count(self):
        calls = [*FOUR, due(0, 5)]
        self.assertEqual(last(*calls, order(2, 1, 0)), [0, 1, 25, 4, 0, 30, 1, 60])
        self.assertEqual(last(*calls, order(2, 2, 0)), [0, 0, 0, 4, 2, 30, 3, 60])

    def test_an_attendant_without_tasks(self):
        self.assertEqual(last(*FOUR, due(0, 5), order(8, 4, 7)), [0, 0, 0, 2, 3, 37])
        for attendant in range(5, 9):
            self.assertEqual(last(*FOUR, due(0, 5), order(8, attendant, 7)), [0, 0, 0, 0])

    def test_no_tasks(self):
        for attendant in range(1, 9):
            self.assertEqual(last(begin(), due(0, 600), order(8, attendant, 0)), [0, 0, 0, 0])

    def test_a_room_that_is_due_but_no_task_does_not_count(self):
        self.assertEqual(
            last(begin(3), write("VI VD VC"), due(0, 1), order(1, 1, 0)), [0, 0, 0, 4, 1, 30, 2, 35])

    def test_a_cleaned_room_that_is_due(self):
        self.assertEqual(
            last(begin(3), write("VD OD VC"), due(2, 10), order(1, 1, 0)), [0, 1, -5, 6, 2, 5, 0, 35, 1, 55])

    def test_due_taken_back(self):
        self.assertEqual(last(*FOUR, due(3, 50), due(3, 0), order(4, 4, 0)), [0, 0, 0, 2, 3, 30])

    def test_no_such_attendant(self):
        for k in range(1, 9):
            for attendant in range(1, 9):
                told = last(*FOUR, order(k, attendant, 0))
                self.assertEqual(told[0], -3 if attendant > k else 0)
                self.assertTrue(len(told) == 1 if attendant > k else len(told) >= 4)

    def test_due_does_not_change_the_parting(self):
        for minute in (0, 1, 1440):
            self.assertEqual(last(*FOUR, due(3, minute), split(2)), [0, 60, 4, 2, 60, 2, 60])

    def test_whole_houses(self):
        chance = random.Random(9)
        for turn in range(150):
            rooms = chance.randint(1, 16)
            codes = [chance.choice(("VD", "VD", "VC", "VI", "OD", "OC", "OO")) for room in range(rooms)]
            dues = {room: chance.choice((0, 30, 30, 60, 200, 1440)) for room in range(rooms) if codes[room][0] == "V"}
            before = [begin(rooms, 30, 20, chance.randint(0, 5)), write(" ".join(codes))]
            before += [extra(room, chance.choice((0, 9))) for room in range(rooms)]
            before += [due(room, minute) for room, minute in dues.items()]
            k = chance.randint(1, 8)
            beginning = chance.choice((0, 1, 100, 1440))
            told = ask(*before, WORK, split(k), *[order(k, one, beginning) for one in range(1, k + 1)])[len(before):]
            tasks = list(zip(told[0][3::2], told[0][4::2]))
            at = 0
            for attendant in range(k):
                taken = tasks[at:at + told[1][3 + 2 * attendant]]
                at += len(taken)
                with self.subTest(calls=before, k=k, attendant=attendant):
                    self.assertEqual(told[2 + attendant], self.by_the_words(taken, dues, beginning))
            self.assertEqual(at, len(tasks))

    def by_the_words(self, taken, dues, minute):
        ranked = sorted((dues.get(room, 0) == 0, dues.get(room, 0), room, minutes) for room, minutes in taken)
        late, row = [], []
        for not_due, by, room, minutes in ranked:
            minute += minutes
            row += [room, minute]
            late += [] if not_due else [minute - by]
        return [0, int(bool(late)), max(late, default=0), len(row), *row]


if __name__ == "__main__":
    unittest.main()
