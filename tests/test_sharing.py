import copy
import itertools
import random
import unittest

from potround.sharing import lack_by, shared, shows_share, wanted_of
from tests.things import bent, check_bent, check_odd

CREWS = [(3, 5), (1, 4), (2, 6)]
ORDERS = [(1, 3), (2, 7), (3, 4)]
ROWS = [(0, 1, 3), (1, 0, 1), (1, 2, 6), (2, 0, 4)]
KINDS = (("bowl", 3, 9), ("cup", 1, 4), ("jug", 2, 8))


def slow_most(crews, orders):
    """How many pieces can be made at most: each share of each order tried, crew by crew."""
    if not crews:
        return 0
    (rank, pieces), others = crews[0], crews[1:]
    best = 0
    choices = [range(min(pieces, many) + 1 if own <= rank else 1) for own, many in orders]
    for made in itertools.product(*choices):
        if sum(made) <= pieces:
            left = [(own, many - less) for (own, many), less in zip(orders, made)]
            best = max(best, sum(made) + slow_most(others, left))
    return best


def slow_share(crews, orders, thing):
    """The document's words, row by row."""
    if type(thing) is not list:
        return False
    pieces = [many for rank, many in crews]
    wanted = [many for rank, many in orders]
    seen = []
    for row in thing:
        if type(row) is not tuple or len(row) != 3 or any(type(part) is not int for part in row):
            return False
        order, crew, many = row
        if order not in range(len(orders)) or crew not in range(len(crews)) or many < 1:
            return False
        if orders[order][0] > crews[crew][0]:
            return False
        pieces[crew] -= many
        wanted[order] -= many
        seen.append((order, crew))
    return seen == sorted(set(seen)) and min(pieces + wanted, default=0) >= 0


def random_pairs(rng, most, great):
    return [(rng.randrange(1, 5), rng.choice(great)) for _ in range(rng.randrange(most + 1))]


class Shared(unittest.TestCase):
    def told(self, crews, orders, lacking):
        before = copy.deepcopy((crews, orders))
        told = shared(crews, orders)
        self.assertEqual((crews, orders), before)
        self.assertIsInstance(told, tuple)
        rows, lack, rank = told
        self.assertIs(slow_share(crews, orders, rows), True, (crews, orders, rows))
        self.assertIs(shows_share(crews, orders, rows), True)
        self.assertEqual(lack, lacking)
        self.assertEqual(sum(many for order, crew, many in rows), sum(many for own, many in orders) - lacking)
        if lacking == 0:
            self.assertIsNone(rank)
        else:
            self.assertIn(rank, range(1, 10))
            self.assertEqual(lack_by(crews, orders, rank), lacking)
        return told

    def test_nothing(self):
        self.assertEqual(shared([], []), ([], 0, None))
        self.assertEqual(shared(CREWS, []), ([], 0, None))
        self.assertEqual(shared([], [(1, 0), (9, 0)]), ([], 0, None))
        self.assertEqual(shared([(9, 0)], [(1, 0)]), ([], 0, None))
        self.assertEqual(shared([], [(4, 7)])[:2], ([], 7))
        self.told([], [(4, 7)], 7)
        self.told([(5, 0)], [(4, 7)], 7)
        self.told([], ORDERS, 14)

    def test_one_of_each(self):
        self.assertEqual(shared([(2, 5)], [(2, 5)]), ([(0, 0, 5)], 0, None))
        self.assertEqual(shared([(2, 5)], [(1, 3)]), ([(0, 0, 3)], 0, None))
        self.assertEqual(shared([(2, 5)], [(2, 6)])[:2], ([(0, 0, 5)], 1))
        self.told([(2, 5)], [(2, 6)], 1)

    def test_ranks_that_bar(self):
        self.assertEqual(shared([(2, 5)], [(3, 5)]), ([], 5, 3))
        self.assertEqual(shared([(1, 9), (8, 2)], [(9, 4), (8, 1)])[:2], ([(1, 1, 1)], 4))
        self.told([(1, 9), (8, 2)], [(9, 4), (8, 1)], 4)
        self.told([(9, 4)], [(9, 4)], 0)

    def test_a_crew_kept_for_the_greater_rank(self):
        # The crew of rank 3 must be left to the order of rank 3, whichever way round they are told.
        for crews in itertools.permutations([(3, 5), (1, 5)]):
            for orders in itertools.permutations([(3, 5), (1, 5)]):
                self.told(list(crews), list(orders), 0)
        self.told(CREWS, ORDERS, 0)
        self.told(CREWS, ORDERS + [(1, 1)], 0)
        self.told(CREWS, ORDERS + [(1, 2)], 1)

    def test_greatest_numbers(self):
        many = 10 ** 9
        self.told([(9, many)], [(1, many)], 0)
        self.told([(9, many)] * 12, [(9, many)] * 20, 8 * many)
        self.told([(9, many)] * 12, [(1, many)] * 12, 0)
        self.told([(8, many)] * 12, [(9, many)] * 20, 20 * many)
        self.told([(rank, many) for rank in range(1, 10)], [(rank, many - 1) for rank in range(1, 10)], 0)
        self.told([(rank, many - 1) for rank in range(1, 10)], [(rank, many) for rank in range(1, 10)], 9)

    def test_against_a_slow_search(self):
        rng = random.Random(81)
        lacks = []
        for _ in range(400):
            crews = random_pairs(rng, 3, [0, 1, 1, 2, 3])
            orders = random_pairs(rng, 3, [0, 1, 1, 2, 3])
            lacking = sum(many for rank, many in orders) - slow_most(crews, orders)
            lacks.append(lacking)
            self.told(crews, orders, lacking)
        self.assertTrue({0, 1, 2, 3, 4} <= set(lacks))

    def test_against_each_rank(self):
        # No more can be made than each rank leaves, and so many are.
        rng = random.Random(82)
        ranks = set()
        for _ in range(400):
            crews = [(rng.randrange(1, 10), rng.randrange(10)) for _ in range(rng.randrange(13))]
            orders = [(rng.randrange(1, 10), rng.randrange(6)) for _ in range(rng.randrange(21))]
            most = max(lack_by(crews, orders, rank) for rank in range(1, 10))
            ranks.add(self.told(crews, orders, most)[2])
        self.assertGreater(len(ranks), 5)

    def test_told_the_same_and_the_askers_own(self):
        told = shared(CREWS, ORDERS)
        kept = copy.deepcopy(told)
        told[0].clear()
        self.assertEqual(shared(CREWS, ORDERS), kept)

    def test_by_names(self):
        self.assertEqual(shared(orders=[(2, 6)], crews=[(2, 5)]), ([(0, 0, 5)], 1, 2))


class ShowsShare(unittest.TestCase):
    def asked(self, thing, answer, crews=CREWS, orders=ORDERS):
        before = copy.deepcopy((crews, orders, thing))
        self.assertIs(shows_share(crews, orders, thing), answer, thing)
        self.assertEqual(repr((crews, orders, thing)), repr(before))

    def test_ordinary(self):
        self.asked(ROWS, True)
        self.asked(shared(CREWS, ORDERS)[0], True)

    def test_however_many(self):
        self.asked([], True)
        self.asked([], True, [], [])
        self.asked([(0, 0, 1)], True)
        for many in range(len(ROWS)):
            self.asked(ROWS[:many] + ROWS[many + 1:], True)

    def test_all_rows_that_are_so(self):
        crews, orders = [(2, 2), (1, 1)], [(1, 2), (2, 1)]
        pairs = [(order, crew) for order in range(2) for crew in range(2)]
        right = 0
        for many in itertools.product(range(3), repeat=4):
            rows = [(order, crew, made) for (order, crew), made in zip(pairs, many) if made]
            right += slow_share(crews, orders, rows)
            self.asked(rows, slow_share(crews, orders, rows), crews, orders)
        self.assertGreater(right, 5)

    def test_rising_each_two_once(self):
        self.asked([ROWS[1], ROWS[0]], False)
        self.asked(ROWS[::-1], False)
        self.asked([(0, 1, 1), (0, 1, 1)], False)
        self.asked([(0, 1, 1), (0, 1, 2)], False)
        self.asked([(0, 1, 1), (0, 0, 2)], False)
        self.asked([(0, 0, 2), (0, 1, 1)], True)
        self.asked([(1, 0, 1), (0, 1, 1)], False)

    def test_numbers_of_orders_and_crews(self):
        for number in (-1, -3, 3, 10 ** 30):
            self.asked([(number, 0, 1)], False)
            self.asked([(0, number, 1)], False)
        self.asked([(0, 0, 1)], False, [], ORDERS)
        self.asked([(0, 0, 1)], False, CREWS, [])

    def test_how_many(self):
        for many in (0, -1, -10 ** 30):
            self.asked([(0, 1, many)], False)
        self.asked([(0, 1, 1)], True)

    def test_ranks(self):
        self.asked([(1, 1, 1)], False)
        self.asked([(2, 2, 1)], False)
        self.asked([(2, 1, 1)], False)
        for order, crew in ((0, 0), (0, 1), (0, 2), (1, 0), (1, 2), (2, 0)):
            self.asked([(order, crew, 1)], True)

    def test_more_than_an_order_wants(self):
        self.asked([(0, 1, 3)], True)
        self.asked([(0, 1, 4)], False)
        self.asked([(0, 0, 1), (0, 1, 1), (0, 2, 1)], True)
        self.asked([(0, 0, 1), (0, 1, 2), (0, 2, 1)], False)

    def test_more_than_a_crew_makes(self):
        self.asked([(1, 2, 6)], True)
        self.asked([(1, 2, 7)], False)
        self.asked([(0, 0, 1), (2, 0, 4)], True)
        self.asked([(0, 0, 1), (1, 0, 1), (2, 0, 4)], False)

    def test_other_things_in_a_numbers_place(self):
        self.asked([(0, 1, 1)], True)
        self.asked([(False, 1, 1)], False)
        self.asked([(0, True, 1)], False)
        self.asked([(0, 1, True)], False)
        for part in (None, "1", [1], (1,), [], ()):
            self.asked([(part, 1, 1)], False)
            self.asked([(0, part, 1)], False)
            self.asked([(0, 1, part)], False)

    def test_lists_and_tuples(self):
        self.asked(tuple(ROWS), False)
        self.asked((), False)
        self.asked([list(row) for row in ROWS], False)
        self.asked([(0, 1)], False)
        self.asked([(0, 1, 1, 1)], False)
        self.asked((0, 1, 1), False)
        self.asked([0, 1, 1], False)
        self.asked([None], False)
        self.asked(None, False)
        self.asked("", False)

    def test_any_other_thing(self):
        check_odd(self, lambda thing: shows_share(CREWS, ORDERS, thing))
        check_bent(self, lambda thing: shows_share(CREWS, ORDERS, thing), ROWS)
        rng = random.Random(83)
        for _ in range(4000):
            thing = bent(rng, ROWS)
            self.asked(thing, slow_share(CREWS, ORDERS, thing))

    def test_by_names(self):
        self.assertIs(shows_share(thing=ROWS, orders=ORDERS, crews=CREWS), True)


class LackBy(unittest.TestCase):
    def test_nought_at_least(self):
        self.assertEqual(lack_by([], [], 1), 0)
        self.assertEqual(lack_by([(9, 5)], [], 1), 0)
        self.assertEqual(lack_by([(9, 5)], [(1, 5)], 1), 0)
        self.assertEqual(lack_by([(9, 5)], [(1, 6)], 1), 1)
        self.assertEqual(lack_by([(9, 5)], [(1, 6)], 2), 0)

    def test_each_rank(self):
        crews = [(3, 5), (1, 4), (2, 6), (5, 1)]
        orders = [(1, 30), (2, 7), (3, 14), (9, 3), (5, 0)]
        before = copy.deepcopy((crews, orders))
        # From rank 1 on 54 by 16, from 2 on 24 by 12, from 3 on 17 by 6, from 4 and 5 on 3 by 1, then 3 by none.
        told = [lack_by(crews, orders, rank) for rank in range(1, 10)]
        self.assertEqual(told, [38, 12, 11, 2, 2, 3, 3, 3, 3])
        self.assertEqual((crews, orders), before)

    def test_greatest_numbers(self):
        self.assertEqual(lack_by([(9, 10 ** 9)], [(9, 10 ** 9)] * 20, 9), 19 * 10 ** 9)

    def test_by_names(self):
        self.assertEqual(lack_by(rank=1, orders=[(1, 6)], crews=[(9, 5)]), 1)


class WantedOf(unittest.TestCase):
    WANTED = [("jug", "amber", 5), ("cup", "blue", 2), ("bowl", "amber", 0), ("jug", "amber", 5), ("cup", "amber", 9)]

    def test_in_order_of_that_colour_alone(self):
        before = list(self.WANTED)
        self.assertEqual(wanted_of(KINDS, self.WANTED, "amber"), [(2, 5), (3, 0), (2, 5), (1, 9)])
        self.assertEqual(wanted_of(KINDS, self.WANTED, "blue"), [(1, 2)])
        self.assertEqual(self.WANTED, before)

    def test_none(self):
        self.assertEqual(wanted_of(KINDS, self.WANTED, "clear"), [])
        self.assertEqual(wanted_of(KINDS, [], "amber"), [])

    def test_the_askers_own(self):
        wanted_of(KINDS, [], "amber").append("x")
        self.assertEqual(wanted_of(KINDS, [], "amber"), [])

    def test_handed_on(self):
        orders = wanted_of(KINDS, self.WANTED, "amber")
        self.assertEqual(shared([(3, 10), (1, 8)], orders)[1], 1)

    def test_by_names(self):
        self.assertEqual(wanted_of(colour="blue", wanted=self.WANTED, kinds=KINDS), [(1, 2)])


if __name__ == "__main__":
    unittest.main()
