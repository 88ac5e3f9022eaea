import copy
import functools
import itertools
import random
import unittest

from potround.gathercheck import shows_lack, shows_rows
from potround.gathering import served


def can_serve(offers, wants):
    """Whether all wants can be served: each choice of offers tried, hour by hour."""
    @functools.lru_cache(maxsize=None)
    def from_hour(hour, left):
        if hour == len(wants):
            return True
        free = [at for at, (first, last, gathers) in enumerate(offers) if first <= hour < last and left[at] > 0]
        return any(from_hour(hour + 1, tuple(many - (at in chosen) for at, many in enumerate(left)))
                   for chosen in itertools.combinations(free, wants[hour]))
    return from_hour(0, tuple(offer[2] for offer in offers))


def slow_first(offers, wants):
    """The first hour up to which the wants can't be served, None where all can."""
    return next((hour for hour in range(len(wants)) if not can_serve(offers, wants[:hour + 1])), None)


def random_case(rng, most_offers, most_hours, most_gathers, most_wants):
    offers = []
    for _ in range(rng.randrange(most_offers + 1)):
        first = rng.randrange(most_hours)
        offers.append((first, rng.randrange(first + 1, most_hours + 1), rng.randrange(most_gathers + 1)))
    wants = [rng.randrange(most_wants + 1) for _ in range(rng.randrange(most_hours + 1))]
    return offers, wants


class Served(unittest.TestCase):
    def told(self, offers, wants, first):
        """All are served where first is None; else first is the first hour up to which they can't be."""
        before = copy.deepcopy((offers, wants))
        told = served(offers, wants)
        self.assertEqual((offers, wants), before)
        self.assertIsInstance(told, tuple)
        rows, lack = told
        if first is None:
            self.assertIsNone(lack)
            self.assertIs(shows_rows(offers, wants, rows), True, (offers, wants, rows))
            self.assertEqual(len({id(row) for row in rows}), len(rows))
        else:
            self.assertIsNone(rows)
            self.assertEqual(lack[0], first)
            self.assertIs(shows_lack(offers, wants, lack), True, (offers, wants, lack))
            self.assertIs(shows_rows(offers, wants[:first], served(offers, wants[:first])[0]), True)
        return told

    def test_nothing(self):
        self.assertEqual(served([], []), ([], None))
        self.assertEqual(served([], [0, 0, 0]), ([[], [], []], None))
        self.assertEqual(served([(0, 9, 5)], []), ([], None))
        self.assertEqual(served([(0, 9, 5)], [0] * 60), ([[] for _ in range(60)], None))
        self.assertEqual(served([], [0, 0, 1, 0]), (None, (2, [2])))
        self.assertEqual(served([(0, 9, 0)], [1]), (None, (0, [0])))

    def test_one_offer(self):
        self.assertEqual(served([(1, 3, 2)], [0, 1, 1]), ([[], [0], [0]], None))
        self.told([(1, 3, 2)], [0, 1, 1, 1], 3)
        self.told([(1, 3, 2)], [1, 1, 1, 1], 0)
        self.told([(1, 3, 2)], [0, 2], 1)
        self.told([(1, 3, 1)], [0, 1, 0, 0], None)
        self.told([(1, 3, 1)], [0, 1, 1, 0], 2)

    def test_gathers_lack(self):
        self.assertEqual(served([(0, 9, 3)], [1, 1, 1, 1])[1], (3, [0, 1, 2, 3]))
        self.told([(0, 9, 3), (0, 9, 2)], [1, 1, 1, 1, 1], None)
        self.told([(0, 9, 3), (0, 9, 2)], [1, 1, 1, 1, 1, 1], 5)

    def test_hours_lack(self):
        self.told([(0, 4, 99), (2, 4, 99)], [1, 1, 2, 2], None)
        self.told([(0, 4, 99), (2, 4, 99)], [1, 2, 2, 2], 1)
        self.told([(0, 4, 99), (2, 4, 99)], [1, 1, 2, 3], 3)
        self.told([(0, 4, 99), (2, 4, 99)], [1, 1, 2, 2, 1], 4)

    def test_both_lack(self):
        self.told([(0, 4, 2), (2, 4, 99)], [1, 1, 1, 1], None)
        self.told([(0, 4, 2), (2, 4, 99)], [1, 1, 2, 0], 2)
        self.told([(0, 4, 3), (3, 6, 1)], [1, 1, 1, 1, 1, 0], 4)

    def test_kept_for_a_later_hour(self):
        # The first offer is the only one of hour 1, whichever way round the two are told.
        self.assertEqual(served([(0, 2, 1), (0, 1, 1)], [1, 1]), ([[1], [0]], None))
        self.assertEqual(served([(0, 1, 1), (0, 2, 1)], [1, 1]), ([[0], [1]], None))
        # Each offer must be kept for the hour at which it is the only one left.
        offers = [(0, last, 1) for last in range(1, 11)]
        self.assertEqual(served(offers, [1] * 10), ([[at] for at in range(10)], None))
        self.assertEqual(served(offers[::-1], [1] * 10), ([[9 - at] for at in range(10)], None))
        self.told(offers, [1] * 11, 10)
        self.told(offers, [1, 1, 1, 8], 3)
        self.told(offers, [1, 1, 1, 7], None)

    def test_offers_that_are_alike(self):
        self.told([(0, 2, 1)] * 3, [2, 1], None)
        self.told([(0, 2, 1)] * 3, [2, 2], 1)
        self.assertEqual(served([(3, 4, 1)] * 10, [0, 0, 0, 10]), ([[], [], [], list(range(10))], None))

    def test_ten_offers_and_sixty_hours(self):
        self.told([(0, 60, 999)] * 10, [10] * 60, None)
        self.told([(0, 60, 60)] * 10, [10] * 60, None)
        self.told([(0, 60, 60)] * 9 + [(0, 60, 59)], [10] * 60, 59)
        self.told([(0, 60, 59)] * 10, [9] * 59 + [10], None)
        rng = random.Random(51)
        firsts = []
        for _ in range(60):
            offers = []
            for _ in range(10):
                first = rng.randrange(30)
                offers.append((first, rng.randrange(first + 20, 61), rng.randrange(5, 60)))
            wants = [rng.choice([0, 0, 1, 1, 2]) if rng.random() < 0.9 else 0 for _ in range(60)]
            first = None
            rows, lack = served(offers, wants)
            if lack is not None:
                first = lack[0]
            firsts.append(first)
            self.told(offers, wants, first)
        self.assertIn(None, firsts)
        self.assertGreater(max(first for first in firsts if first is not None), 20)

    def test_against_a_slow_search(self):
        rng = random.Random(52)
        answers = []
        for _ in range(1500):
            offers, wants = random_case(rng, 4, 6, rng.choice([2, 4]), 2)
            first = slow_first(offers, wants)
            answers.append(first)
            self.told(offers, wants, first)
        self.assertTrue({None, 0, 1, 2, 3, 4} <= set(answers))

    def test_where_offers_are_handed_on_from_hour_to_hour(self):
        self.told([(0, 16, 3), (2, 6, 0), (3, 6, 1), (0, 9, 3), (2, 4, 2), (18, 20, 3)], [2, 0, 1, 2, 2, 2], None)
        rng = random.Random(53)
        for _ in range(1000):
            offers, wants = random_case(rng, 8, 8, 2, 2)
            self.told(offers, wants, slow_first(offers, wants))

    def test_told_the_same_and_the_askers_own(self):
        rows = served([(0, 9, 9)], [1, 0, 0])[0]
        rows[1].append("x")
        self.assertEqual(rows, [[0], ["x"], []])
        self.assertEqual(served([(0, 9, 9)], [1, 0, 0]), ([[0], [], []], None))
        hours = served([(0, 9, 2)], [1, 1, 1])[1][1]
        kept = list(hours)
        hours.clear()
        self.assertEqual(served([(0, 9, 2)], [1, 1, 1]), (None, (2, kept)))

    def test_by_names(self):
        self.assertEqual(served(wants=[0, 1, 1], offers=[(1, 3, 2)]), ([[], [0], [0]], None))


if __name__ == "__main__":
    unittest.main()
