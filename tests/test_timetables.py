import copy
import itertools
import random
import unittest

from potround.errors import Never
from potround.rounds import steps_of
from potround.timetables import Timetable, is_ring, keeps
from tests.things import check_bent, check_odd, odd_things

PALETTE = (
    (("amber", 2, 3, 40), ("blue", 3, 0, 25), ("clear", 1, 2, 60)),
    (("amber", "blue", 4), ("amber", "clear", None), ("blue", "amber", 1)),
)
ONE = [("p", "t", "amber", 7)]
# Steps: 0 to 3 (0, 2, 2, 0) (0, 1, 5, 0) (1, 3, 5, 0) (1, 2, 9, 0); 4 to 7 (2, 0, 3, 1) (2, 3, 3, 0) (3, 1, 9, 1)
# (3, 0, 10, 1).
TWO = [("p", "t", "amber", 5), ("p", "t", "blue", 9)]
NEVER = [("p", "t", "amber", 5), ("p", "t", "clear", 9)]


def slow_keeps(rows, times, length):
    """The steps looked at round by round."""
    if len(times) != len(rows) or any(hour < 0 for pair in times for hour in pair):
        return False
    moments = [hour for pair in times for hour in pair]
    return all(moments[other] + (often + over) * length - moments[one] - often * length >= hours
               for one, other, hours, over in steps_of(PALETTE, rows) for often in range(3))


class Told(unittest.TestCase):
    def test_length_and_pair(self):
        table = Timetable([(0, 5), (1, 9)], 24)
        self.assertEqual(table.length, 24)
        self.assertEqual(table.pair(0), (0, 5))
        self.assertEqual(table.pair(1), (1, 9))
        self.assertEqual(table.pair(1, 0), (1, 9))
        self.assertEqual(table.pair(1, 2), (49, 57))
        self.assertEqual(table.pair(0, 10 ** 6), (24 * 10 ** 6, 24 * 10 ** 6 + 5))
        self.assertIsInstance(table.pair(0), tuple)

    def test_by_names(self):
        table = Timetable(length=10, times=[(3, 4)])
        self.assertEqual(table.pair(often=1, number=0), (13, 14))

    def test_len(self):
        self.assertEqual(len(Timetable([(0, 5)], 24)), 1)
        self.assertEqual(len(Timetable([(0, 5)] * 12, 24)), 12)

    def test_like(self):
        table = Timetable([(0, 5), (1, 9)], 24)
        self.assertTrue(table == Timetable([(0, 5), (1, 9)], 24))
        self.assertFalse(table != Timetable([(0, 5), (1, 9)], 24))
        self.assertTrue(table == table)
        self.assertFalse(table == Timetable([(0, 5), (1, 9)], 25))
        self.assertFalse(table == Timetable([(0, 5), (2, 9)], 24))
        self.assertFalse(table == Timetable([(0, 5), (1, 8)], 24))
        self.assertFalse(table == Timetable([(1, 9), (0, 5)], 24))
        self.assertFalse(table == Timetable([(0, 5)], 24))
        self.assertTrue(table != Timetable([(0, 5)], 24))

    def test_unlike_other_things(self):
        table = Timetable([(0, 5)], 24)
        others = odd_things()[:60] + [[], [(0, 5)], ((0, 5),), ([(0, 5)], 24), "Timetable([(0, 5)], 24)", {}, object()]
        for other in others:
            self.assertIs(table == other, False)
            self.assertIs(other == table, False)
            self.assertIs(table != other, True)

    def test_repr_and_str(self):
        table = Timetable([(0, 5), (1, 9)], 24)
        self.assertEqual(repr(table), "Timetable([(0, 5), (1, 9)], 24)")
        self.assertEqual(str(table), "0-5 1-9 / 24")
        self.assertEqual(repr(Timetable([(7, 8)], 0)), "Timetable([(7, 8)], 0)")
        self.assertEqual(str(Timetable([(7, 8)], 0)), "7-8 / 0")

    def test_below_nought(self):
        table = Timetable([(-3, -2), (1, -9)], -24)
        self.assertEqual(table.length, -24)
        self.assertEqual(table.pair(0, 1), (-27, -26))
        self.assertEqual(repr(table), "Timetable([(-3, -2), (1, -9)], -24)")
        self.assertEqual(str(table), "-3--2 1--9 / -24")

    def test_of_any_size(self):
        for size in (59, 60, 61, 119, 120, 121, 300):
            for add in (-1, 0, 1):
                big = 10 ** size + add
                table = Timetable([(big, -big), (0, big)], big)
                self.assertEqual(table.pair(1, 3), (3 * big, 4 * big))
                self.assertEqual(repr(table), f"Timetable([({big}, -{big}), (0, {big})], {big})")
                self.assertEqual(str(table), f"{big}--{big} 0-{big} / {big}")

    def test_longer_than_python_writes(self):
        noughts = "0" * 6000
        big = 10 ** 6000
        table = Timetable([(big, -big)], big + 7)
        self.assertEqual(str(table), f"1{noughts}--1{noughts} / 1{noughts[1:]}7")
        self.assertEqual(repr(table), f"Timetable([(1{noughts}, -1{noughts})], 1{noughts[1:]}7)")
        self.assertTrue(table == Timetable([(big, -big)], big + 7))
        self.assertFalse(table == Timetable([(big, -big + 1)], big + 7))

    def test_list_changed_behind(self):
        times = [(0, 5), (1, 9)]
        table = Timetable(times, 24)
        times[0] = (7, 8)
        times.append((2, 3))
        self.assertEqual(repr(table), "Timetable([(0, 5), (1, 9)], 24)")
        self.assertEqual(table.pair(0), (0, 5))
        self.assertEqual(len(table), 2)
        self.assertTrue(table == Timetable([(0, 5), (1, 9)], 24))
        self.assertEqual(times, [(7, 8), (1, 9), (2, 3)])


class Keeps(unittest.TestCase):
    def told(self, rows, times, length, answer):
        table = Timetable(times, length)
        before = list(rows)
        self.assertIs(keeps(PALETTE, rows, table), answer, (times, length))
        self.assertEqual(rows, before)
        self.assertEqual(repr(table), repr(Timetable(times, length)))

    def test_one_row(self):
        # Filled 0, ready 5, worked 5 to 12, filled anew 12.
        self.told(ONE, [(0, 5)], 12, True)
        self.told(ONE, [(0, 5)], 11, False)
        self.told(ONE, [(0, 4)], 12, False)
        self.told(ONE, [(0, 6)], 12, False)
        self.told(ONE, [(0, 6)], 13, True)
        self.told(ONE, [(100, 105)], 12, True)
        self.told(ONE, [(0, 5)], 10 ** 40, True)
        self.told(ONE, [(10 ** 40, 10 ** 40 + 5)], 12, True)

    def test_each_step_just_held_and_missed_by_one(self):
        # Worked 5 to 10, washed 4, filled 14, ready 17, worked 17 to 26, washed 1, filled 27.
        self.told(TWO, [(0, 5), (14, 17)], 27, True)
        self.told(TWO, [(0, 5), (14, 17)], 26, False)
        self.told(TWO, [(0, 4), (14, 17)], 27, False)
        self.told(TWO, [(0, 5), (13, 17)], 27, False)
        self.told(TWO, [(0, 5), (14, 16)], 27, False)
        self.told(TWO, [(1, 5), (14, 17)], 28, False)

    def test_gang_of_fillers(self):
        rows = [("p", "t", "amber", 1), ("q", "u", "blue", 1)]
        self.told(rows, [(0, 5), (2, 5)], 20, True)
        self.told(rows, [(0, 5), (1, 5)], 20, False)
        self.told(rows, [(0, 5), (17, 20)], 20, True)
        self.told(rows, [(0, 5), (18, 21)], 20, False)

    def test_teams(self):
        rows = [("p", "t", "amber", 9), ("q", "t", "blue", 8)]
        self.told(rows, [(0, 5), (6, 14)], 17, True)
        self.told(rows, [(0, 5), (6, 13)], 17, False)
        self.told(rows, [(0, 5), (6, 14)], 16, False)

    def test_how_many_pairs(self):
        self.told(ONE, [(0, 5), (0, 5)], 99, False)
        self.told(TWO, [(0, 5)], 99, False)
        self.told(TWO, [(0, 5), (14, 17), (50, 60)], 99, False)

    def test_numbers_below_nought(self):
        self.told(ONE, [(-1, 4)], 12, False)
        self.told(ONE, [(-20, -15)], 12, False)
        self.told(ONE, [(-1, 5)], 13, False)
        self.told(ONE, [(0, 5)], -12, False)
        self.told(ONE, [(0, 5)], 0, False)
        self.told([("p", "t", "amber", 1), ("q", "u", "blue", 1)], [(-1, 5), (2, 5)], 20, False)

    def test_by_names(self):
        self.assertIs(keeps(timetable=Timetable([(0, 5)], 12), rows=ONE, palette=PALETTE), True)

    def test_round_by_round(self):
        rng = random.Random(13)
        answers = []
        for _ in range(600):
            rows = [(rng.choice("pq"), rng.choice("tu"), rng.choice(["amber", "blue"]), rng.randrange(1, 4))
                    for _ in range(rng.randrange(1, 4))]
            hour = rng.randrange(-1, 3)
            times = []
            for _ in range(len(rows) + rng.choice([0, 0, 0, 0, -1, 1])):
                times.append((hour, hour + rng.randrange(3, 7)))
                hour += rng.randrange(2, 13)
            times = times or [(0, 5)]
            length = rng.randrange(5, 40)
            answer = slow_keeps(rows, times, length)
            self.told(rows, times, length, answer)
            answers.append(answer)
        self.assertGreater(answers.count(True), 20)
        self.assertGreater(answers.count(False), 20)

    def test_refused_whatever_is_handed_beside(self):
        for table in (Timetable([(0, 5), (20, 30)], 99), Timetable([(0, 5)], 99), Timetable([(-1, -1)] * 3, -5), None):
            with self.assertRaises(Never) as caught:
                keeps(PALETTE, NEVER, table)
            self.assertEqual((caught.exception.ahead, caught.exception.behind), ("amber", "clear"))


class IsRing(unittest.TestCase):
    def told(self, rows, length, thing, answer):
        before = copy.deepcopy(thing)
        self.assertIs(is_ring(PALETTE, rows, length, thing), answer, (length, thing))
        self.assertEqual(repr(thing), repr(before))

    def test_one_step(self):
        # The team's own step: 7 hours, one over.
        self.told(ONE, 6, [2], True)
        self.told(ONE, 7, [2], False)
        self.told(ONE, 1, [0], True)
        self.told(ONE, 2, [0], False)
        self.told(ONE, 0, [1], False)

    def test_several_steps(self):
        self.told(ONE, 11, [1, 3], True)
        self.told(ONE, 12, [1, 3], False)
        self.told(ONE, 11, [3, 1], True)
        # 5 + 9 + 3 + 10 hours, one over.
        for ring in ([1, 3, 5, 7], [3, 5, 7, 1], [7, 1, 3, 5]):
            self.told(TWO, 26, ring, True)
            self.told(TWO, 27, ring, False)
        # 5 + 9 hours of the team's.
        self.told(TWO, 13, [2, 6], True)
        self.told(TWO, 14, [2, 6], False)

    def test_overs_together(self):
        # From fill to fill and back, by one's own pot: 2 rings in one, 2 + 5 + 7 hours, two over.
        self.told(ONE, 6, [0, 1, 3], True)
        self.told(ONE, 7, [0, 1, 3], False)
        self.told(ONE, 6, [2, 3, 0, 1], True)

    def test_a_step_twice(self):
        self.told(ONE, 0, [2, 2], False)
        self.told(ONE, 0, [1, 3, 1, 3], False)
        self.told(ONE, 0, [0, 0, 1, 3], False)

    def test_not_where_the_one_ahead_ends(self):
        self.told(TWO, 0, [1, 5, 3, 7], False)
        self.told(TWO, 0, [1, 3], False)
        self.told(TWO, 0, [1], False)
        self.told(TWO, 0, [0, 5, 7, 3], False)
        self.told(ONE, 0, [1, 3, 2], False)

    def test_numbers_that_are_none_of_a_step(self):
        self.told(ONE, 0, [4], False)
        self.told(ONE, 0, [-1], False)
        self.told(ONE, 0, [-2], False)
        self.told(ONE, 0, [-4], False)
        self.told(ONE, 0, [-3, 3], False)
        self.told(TWO, 0, [1, 3, 5, 7, 8], False)
        self.told(ONE, 0, [10 ** 30], False)

    def test_other_things(self):
        self.told(ONE, 0, [], False)
        self.told(ONE, 0, (2,), False)
        self.told(ONE, 0, [True, 3], False)
        self.told(ONE, 0, [False], False)
        self.told(ONE, 0, ["2"], False)
        self.told(ONE, 0, [None], False)
        self.told(ONE, 0, [(2,)], False)
        self.told(ONE, 0, [[2]], False)
        self.told(ONE, 0, 2, False)
        check_odd(self, lambda thing: is_ring(PALETTE, TWO, 0, thing))
        check_bent(self, lambda thing: is_ring(PALETTE, TWO, 0, thing), [1, 3, 5, 7])

    def test_by_names(self):
        self.assertIs(is_ring(thing=[2], length=6, rows=ONE, palette=PALETTE), True)

    def test_where_a_ring_bars_no_times_keep(self):
        for length in range(9, 16):
            kept = any(keeps(PALETTE, ONE, Timetable([(0, work)], length)) for work in range(20))
            rings = [list(ring) for many in range(1, 5) for ring in itertools.permutations(range(4), many)]
            barred = any(is_ring(PALETTE, ONE, length, ring) for ring in rings)
            self.assertEqual(kept, not barred)

    def test_refused_whatever_is_handed_beside(self):
        for thing in ([2], [], None, 0, "x", [None], [99], [[]]):
            with self.assertRaises(Never) as caught:
                is_ring(PALETTE, NEVER, 5, thing)
            self.assertEqual((caught.exception.ahead, caught.exception.behind), ("amber", "clear"))


if __name__ == "__main__":
    unittest.main()
