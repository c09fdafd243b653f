"""The least greatest load, the parting told and the witness told, against all partings gone through one by one."""

import functools
import itertools
import random
import unittest

from tests.helper import WORK, ask, best_of_all, bound, loads, prove, split, with_tasks, witness


def best_from_behind(minutes, k):
    """The same for larger numbers of tasks, from the tasks behind."""
    @functools.lru_cache(None)
    def greatest(begin, left):
        if left == 1:
            return sum(minutes[begin:])
        return min(max(sum(minutes[begin:end]), greatest(end, left - 1)) for end in range(begin, len(minutes) + 1))

    least = greatest(0, k)

    @functools.lru_cache(None)
    def parted(begin, left):
        if left == 0:
            return (0, ()) if begin == len(minutes) else None
        found = []
        for end in range(begin, len(minutes) + 1):
            load = sum(minutes[begin:end])
            rest = parted(end, left - 1) if load <= least else None
            if rest is not None:
                found.append((rest[0] + load * load, (begin - end, *rest[1])))
        return min(found, default=None)

    return least, tuple(-taken for taken in parted(0, k)[1])


class Parted(unittest.TestCase):
    def look(self, minutes, best, ks=range(1, 9)):
        """What split, bound and prove tell of these tasks."""
        before = with_tasks(minutes)
        told = ask(*before, WORK, *[call for k in ks for call in (split(k), bound(k))])[len(before):]
        self.assertEqual(told[0][:2], [0, sum(minutes)])
        proofs = []
        for k, (parted, bounded) in zip(ks, zip(told[1::2], told[2::2])):
            with self.subTest(minutes=minutes, k=k):
                least, parting = best(minutes, k)
                pairs = [one for pair in zip(parting, loads(minutes, parting)) for one in pair]
                self.assertEqual(parted, [0, least, 2 * k, *pairs])
                self.assertEqual(bounded, [0, least, k + 1, *witness(minutes, k, least)])
                proofs.extend([prove(k, least, bounded[3:]), prove(k, least + 1, bounded[3:])])
        self.assertEqual(ask(*before, *proofs)[len(before):], [[0, 1], [0, 0]] * len(ks))

    def test_all_small_ones(self):
        for tasks in range(1, 6):
            for minutes in itertools.product((1, 2, 3), repeat=tasks):
                self.look(list(minutes), best_of_all)

    def test_few_minutes_of_great_difference(self):
        for tasks in range(1, 6):
            for minutes in itertools.product((1, 7, 120), repeat=tasks):
                self.look(list(minutes), best_of_all, (1, 2, 3, 5, 8))

    def test_equal_minutes(self):
        for tasks in range(1, 10):
            for amount in (1, 121):
                self.look([amount] * tasks, best_of_all)

    def test_some_of_middle_size(self):
        chance = random.Random(5)
        for turn in range(30):
            minutes = [chance.randint(1, chance.choice((3, 10, 121))) for task in range(chance.randint(6, 9))]
            self.look(minutes, best_of_all)

    def test_thirty_tasks_for_few_attendants(self):
        chance = random.Random(6)
        for turn in range(3):
            self.look([chance.randint(1, 60) for task in range(30)], best_of_all, (1, 2, 3, 4))

    def test_the_greatest_size(self):
        chance = random.Random(7)
        for turn in range(15):
            top = chance.choice((2, 4, 30, 121))
            self.look([chance.randint(1, top) for task in range(30)], best_from_behind)
        self.look([1] * 30, best_from_behind)
        self.look([121] * 30, best_from_behind)

    def test_the_two_ways_of_looking_agree(self):
        chance = random.Random(8)
        for turn in range(60):
            minutes = [chance.randint(1, 5) for task in range(chance.randint(1, 7))]
            k = chance.randint(1, 6)
            self.assertEqual(best_from_behind(minutes, k), best_of_all(minutes, k))

    def test_both_witnesses_come_up(self):
        # So that neither is looked at by chance alone: one task has just 7 minutes, none has just 8.
        self.look([1, 7, 2], best_of_all)
        self.assertEqual(witness([1, 7, 2], 3, 7), [1, 1, 1, 1])
        self.look([4, 5, 3], best_of_all)
        self.assertEqual(witness([4, 5, 3], 2, 8), [0, 1, 2])


if __name__ == "__main__":
    unittest.main()
