"""One list in, one list out: the form of both, and that nothing is changed or kept."""

import contextlib
import io
import random
import unittest

from roomcodes.house import answers
from tests.helper import (
    BOARD, COUNT, DIFFERENCES, FAR, NIGHT, WORK, ask, begin, bound, due, extra, guest_in, letters, move, order, prove,
    report, show, split, write)

HOW_MANY = {0: 4, 1: 1, 2: 1, 3: 2, 4: 0, 5: 3, 6: 2, 7: 1, 8: 1, 9: 2, 10: 2,
            11: 0, 12: 1, 13: 1, 14: 2, 15: 3, 16: 0, 17: 2, 18: 1, 19: 0, 20: 0, 21: 0}
VALUES = (0, 0, 0, 1, 1, 1, 2, 2, 3, 4, 8, 29, 30, -1, FAR, -FAR)


def some_row(chance, number, rooms):
    if number == 14:
        return [chance.choice(VALUES[:9]) for place in range(chance.choice((0, 2, 2, 3, 4, 10, 100)))]
    if chance.randint(0, 3) == 0:
        return [chance.choice((86, 68, 32, 256)) for place in range(chance.choice((0, 2, 5, 100)))]
    return letters(" ".join(chance.choice(("VD", "VC", "VI", "OD", "OC", "OO")) for room in range(rooms)))


def some_calls(chance):
    """60 calls of any kind, most of them with numbers that are likely to be accepted."""
    rooms = chance.randint(1, 5)
    calls = begin(rooms)
    for turn in range(59):
        number = chance.randint(0 if turn % 20 == 0 else 1, 21)
        calls.append(number)
        for place in range(HOW_MANY[number]):
            calls.append(chance.choice(VALUES))
        if number in (14, 21):
            row = some_row(chance, number, rooms)
            calls.extend([len(row), *row])
    return calls


class Form(unittest.TestCase):
    def test_how_many_numbers_then_these(self):
        calls = begin() + guest_in(0) + report(0, 0, 2) + NIGHT + move(0, 3) + guest_in(0) + [7, 30]
        self.assertEqual(answers(calls), [1, 0, 1, 0, 2, 0, 1, 2, 0, 1, 1, -3, 1, -6, 1, -1])

    def test_one_call_alone(self):
        self.assertEqual(answers(begin()), [1, 0])
        self.assertEqual(answers(NIGHT), [1, -2])
        self.assertEqual(answers([1, FAR]), [1, -1])

    def test_the_numbers_of_a_call_are_not_taken_for_calls(self):
        self.assertEqual(answers([0, 4, 4, 4, 4, 4, 10, 3, 4, 4]), [1, 0, 2, 0, 1, 1, 0, 2, 0, 2])

    def test_every_call_in_one_list(self):
        calls = (begin(2) + guest_in(0) + report(0, 0, 0) + DIFFERENCES + [17, 0, 1] + show(0) + write("VD OD") + WORK +
                 split(2) + bound(1) + prove(1, 50, [0, 1]) + due(0, 40) + order(1, 1, 0) + COUNT + BOARD)
        self.assertEqual(answers(calls), [
            1, 0, 1, 0, 2, 0, 1, 4, 0, 2, 0, 1, 1, 0, 7, 0, 0, 0, 0, 0, 0, 30, 1, 0, 7, 0, 50, 4, 0, 30, 1, 20,
            7, 0, 30, 4, 1, 30, 1, 20, 5, 0, 50, 2, 0, 1, 2, 0, 1, 1, 0, 8, 0, 1, -10, 4, 0, 30, 1, 50,
            9, 0, 0, 6, 1, 0, 0, 1, 0, 0, 7, 0, 5, 86, 68, 32, 79, 68])

    def test_sixty_calls(self):
        calls = [begin(30)] + [guest_in(room) for room in range(30)] + [report(room, 0, 0) for room in range(29)]
        self.assertEqual(len(calls), 60)
        self.assertEqual(ask(*calls), [[0]] * 31 + [[0, 1]] * 29)

    def test_sixty_calls_of_the_greatest_size(self):
        before = [begin(30, 120, 120, 30)] + [extra(room, 120) for room in range(30)] + [write(" ".join(["VD"] * 30))]
        whole = list(range(8, 0, -1))
        asked = [call for k in whole for call in (split(k), bound(k), order(k, k, 1440))]
        calls = before + asked + [WORK, COUNT, BOARD, DIFFERENCES]
        self.assertEqual(len(calls), 60)
        told = ask(*calls)[len(before):]
        for k, parted, bounded, ordered in zip(whole, told[0::3], told[1::3], told[2::3]):
            most = -(-30 // k)
            self.assertEqual(parted[:3], [0, 240 * most, 2 * k])
            self.assertEqual((sum(parted[3::2]), sum(parted[4::2])), (30, 7200))
            self.assertEqual(parted[3::2], sorted(parted[3::2], reverse=True))
            self.assertEqual(bounded, [0, 240 * most, k + 1] + [at * (most - 1) for at in range(k + 1)])
            self.assertEqual(ordered[-2:], [29, 1440 + 240 * (30 // k)])
        self.assertEqual(told[-4][:3], [0, 7200, 60])
        self.assertEqual(told[-3:], [[0, 0, 6, 30, 0, 0, 0, 0, 0], [0, 89] + letters(" ".join(["VD"] * 30)), [0, 0]])

    def test_sixty_times_the_same_call(self):
        full = write(" ".join(["VD"] * 30))
        for call in (split(8), bound(8), order(8, 4, 0), prove(8, 10000, [29] * 9), prove(8, 0, [0] * 100),
                     write([0] * 100), WORK, BOARD):
            told = ask(begin(30), full, *[call] * 58)
            self.assertEqual(told[2:], [told[2]] * 58)

    def test_a_list_of_whole_numbers(self):
        chance = random.Random(1)
        for turn in range(50):
            told = answers(some_calls(chance))
            self.assertIs(type(told), list)
            self.assertEqual({type(number) for number in told}, {int})


class Untouched(unittest.TestCase):
    def test_what_is_handed_in_stays_and_the_same_is_told_twice(self):
        chance = random.Random(2)
        for turn in range(200):
            calls = some_calls(chance)
            copied = list(calls)
            first = answers(calls)
            self.assertEqual(calls, copied)
            self.assertEqual(answers(calls), first)
            self.assertEqual(calls, copied)

    def test_not_changed_for_a_while_either(self):
        class Watched(list):
            def refuse(self, *given, **named):
                raise AssertionError("the list handed in was changed")
            append = extend = insert = pop = remove = clear = sort = reverse = refuse
            __setitem__ = __delitem__ = __iadd__ = __imul__ = refuse

        chance = random.Random(3)
        for turn in range(20):
            calls = some_calls(chance)
            self.assertEqual(answers(Watched(calls)), answers(calls))

    def test_no_house_is_left_from_the_time_before(self):
        answers(begin() + NIGHT + guest_in(0))
        self.assertEqual(answers(NIGHT), [1, -2])
        self.assertEqual(answers(begin() + NIGHT + guest_in(0)), [1, 0, 2, 0, 1, 1, 0])

    def test_an_answer_that_is_changed_changes_no_later_one(self):
        told = answers(begin() + NIGHT)
        told.clear()
        self.assertEqual(answers(begin() + NIGHT), [1, 0, 2, 0, 1])

    def test_nothing_is_printed(self):
        out, err = io.StringIO(), io.StringIO()
        with contextlib.redirect_stdout(out), contextlib.redirect_stderr(err):
            answers(some_calls(random.Random(4)))
        self.assertEqual((out.getvalue(), err.getvalue()), ("", ""))


if __name__ == "__main__":
    unittest.main()
