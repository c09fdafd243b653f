"""One list in, one list out: the form of both, and that nothing is changed or kept."""

import contextlib
import io
import random
import unittest

from roomcodes.house import answers
from tests.helper import FAR, NIGHT, ask, begin, guest_in, move, report


def some_calls(chance):
    """60 calls of any kind, most of them with numbers that are likely to be accepted."""
    how_many = {0: 4, 1: 1, 2: 1, 3: 2, 4: 0, 5: 3, 6: 2, 7: 1, 8: 1, 9: 2, 10: 2}
    calls = begin(chance.randint(1, 5))
    for turn in range(59):
        number = chance.randint(0 if turn % 20 == 0 else 1, 10)
        calls.append(number)
        for place in range(how_many[number]):
            calls.append(chance.choice((0, 0, 0, 1, 1, 1, 2, 2, 3, 4, 29, 30, -1, FAR, -FAR)))
    return calls


class Form(unittest.TestCase):
    def test_how_many_numbers_then_these(self):
        calls = begin() + guest_in(0) + report(0, 0, 2) + NIGHT + move(0, 3) + guest_in(0) + [7, 30]
        self.assertEqual(answers(calls), [1, 0, 1, 0, 2, 0, 1, 2, 0, 1, 1, -3, 1, -6, 1, -1])

    def test_one_call_alone(self):
        self.assertEqual(answers(begin()), [1, 0])
        self.assertEqual(answers(NIGHT), [1, -2])
        self.assertEqual(answers([1, FAR]), [1, -1])

    def test_the_numbers_of_a_call_are_not_taken_for_calls(self):
        self.assertEqual(answers([0, 4, 4, 4, 4, 4, 10, 3, 4, 4]), [1, 0, 2, 0, 1, 1, 0, 2, 0, 2])

    def test_sixty_calls(self):
        calls = [begin(30)] + [guest_in(room) for room in range(30)] + [report(room, 0, 0) for room in range(29)]
        self.assertEqual(len(calls), 60)
        self.assertEqual(ask(*calls), [[0]] * 31 + [[0, 1]] * 29)

    def test_a_list_of_whole_numbers(self):
        chance = random.Random(1)
        for turn in range(50):
            told = answers(some_calls(chance))
            self.assertIs(type(told), list)
            self.assertEqual({type(number) for number in told}, {int})


class Untouched(unittest.TestCase):
    def test_what_is_handed_in_stays_and_the_same_is_told_twice(self):
        chance = random.Random(2)
        for turn in range(200):
            calls = some_calls(chance)
            copied = list(calls)
            first = answers(calls)
            self.assertEqual(calls, copied)
            self.assertEqual(answers(calls), first)
            self.assertEqual(calls, copied)

    def test_not_changed_for_a_while_either(self):
        class Watched(list):
            def refuse(self, *given, **named):
                raise AssertionError("the list handed in was changed")
            append = extend = insert = pop = remove = clear = sort = reverse = refuse
            __setitem__ = __delitem__ = __iadd__ = __imul__ = refuse

        chance = random.Random(3)
        for turn in range(20):
            calls = some_calls(chance)
            self.assertEqual(answers(Watched(calls)), answers(calls))

    def test_no_house_is_left_from_the_time_before(self):
        answers(begin() + NIGHT + guest_in(0))
        self.assertEqual(answers(NIGHT), [1, -2])
        self.assertEqual(answers(begin() + NIGHT + guest_in(0)), [1, 0, 2, 0, 1, 1, 0])

    def test_an_answer_that_is_changed_changes_no_later_one(self):
        told = answers(begin() + NIGHT)
        told.clear()
        self.assertEqual(answers(begin() + NIGHT), [1, 0, 2, 0, 1])

    def test_nothing_is_printed(self):
        out, err = io.StringIO(), io.StringIO()
        with contextlib.redirect_stdout(out), contextlib.redirect_stderr(err):
            answers(some_calls(random.Random(4)))
        self.assertEqual((out.getvalue(), err.getvalue()), ("", ""))


if __name__ == "__main__":
    unittest.main()
