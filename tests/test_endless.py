import itertools
import random
import unittest

from potround.endless import shortest, timed
from potround.errors import Never
from potround.rounds import steps_of
from potround.timetables import Timetable, is_ring, keeps

PALETTE = (
    (("amber", 2, 3, 40), ("blue", 3, 0, 25), ("clear", 1, 2, 60)),
    (("amber", "blue", 4), ("amber", "clear", None), ("blue", "amber", 1)),
)
ONE = [("p", "t", "amber", 7)]
TWO = [("p", "t", "amber", 5), ("p", "t", "blue", 9)]
# One row alone takes 12 hours, the other 11; the team that works both takes 15.
SHARED_TEAM = [("p", "t", "amber", 7), ("q", "t", "blue", 8)]
# No ring of one over bars 8 hours: q's, r's and p's fill and work, and round again, take 17 hours in two rounds.
TWO_OVERS = [("q", "v", "blue", 2), ("r", "t", "clear", 4), ("p", "t", "blue", 4)]
NEVER = [("p", "t", "amber", 5), ("p", "t", "clear", 9)]
TWELVE = [("pqrs"[at % 4], "tuv"[at % 3], ("amber", "blue")[at // 4 % 2], at + 1) for at in range(12)]


def random_rows(rng, most, pots="pqr", teams="tuv"):
    return [(rng.choice(pots), rng.choice(teams), rng.choice(["amber", "blue"]), rng.randrange(1, 12))
            for _ in range(rng.randrange(1, most + 1))]


def slow_times(rows, length):
    """The earliest times: each moment put off hour by hour till all steps hold; None where that has no end."""
    steps = steps_of(PALETTE, rows)
    moments = [0] * (2 * len(rows))
    bound = sum(step[2] for step in steps) + 1
    while max(moments) <= bound:
        late = [other for one, other, hours, over in steps if moments[other] + over * length < moments[one] + hours]
        if not late:
            return [(moments[at], moments[at + 1]) for at in range(0, len(moments), 2)]
        moments[late[0]] += 1
    return None


def slow_least(rows):
    """The least length, each one tried from 0 on."""
    return next(length for length in itertools.count() if slow_times(rows, length) is not None)


def times_of(timetable):
    return [timetable.pair(number) for number in range(len(timetable))]


class Checks(unittest.TestCase):
    def kept(self, rows, told, length):
        """A pair (timetable, None) whose times keep, none of which could be one hour less."""
        self.assertIsInstance(told, tuple)
        self.assertEqual(len(told), 2)
        self.assertIsInstance(told[0], Timetable)
        self.assertIsNone(told[1])
        self.earliest(rows, told[0], length)

    def earliest(self, rows, timetable, length):
        self.assertEqual(timetable.length, length)
        self.assertIs(keeps(PALETTE, rows, timetable), True)
        times = times_of(timetable)
        self.assertEqual(min(hour for pair in times for hour in pair), 0)
        for number, (fill, work) in enumerate(times):
            for pair in ((fill - 1, work), (fill, work - 1)):
                less = times[:number] + [pair] + times[number + 1:]
                self.assertIs(keeps(PALETTE, rows, Timetable(less, length)), False)

    def barred(self, rows, told, length):
        """A pair (None, ring) of a ring that bars the length."""
        self.assertIsInstance(told, tuple)
        self.assertEqual(len(told), 2)
        self.assertIsNone(told[0])
        self.assertIs(is_ring(PALETTE, rows, length, told[1]), True, (rows, length, told))

    def refused(self, ask, rows, ahead, behind):
        before = list(rows)
        with self.assertRaises(Never) as caught:
            ask(rows)
        self.assertEqual((caught.exception.ahead, caught.exception.behind), (ahead, behind))
        self.assertEqual(rows, before)


class Timed(Checks):
    def test_one_row(self):
        self.assertEqual(timed(PALETTE, ONE, 12), (Timetable([(0, 5)], 12), None))
        self.assertEqual(timed(PALETTE, ONE, 50), (Timetable([(0, 5)], 50), None))
        self.kept(ONE, timed(PALETTE, ONE, 12), 12)
        self.barred(ONE, timed(PALETTE, ONE, 11), 11)

    def test_length_nought(self):
        for rows in (ONE, TWO, SHARED_TEAM, TWELVE):
            self.barred(rows, timed(PALETTE, rows, 0), 0)

    def test_great_length(self):
        self.assertEqual(timed(PALETTE, TWO, 10 ** 6), (Timetable([(0, 5), (14, 17)], 10 ** 6), None))
        for rows in (ONE, TWO, SHARED_TEAM, TWELVE):
            self.kept(rows, timed(PALETTE, rows, 10 ** 6), 10 ** 6)

    def test_two_rows(self):
        # Worked 5 to 10, washed 4, filled 14, ready 17, worked 17 to 26, washed 1, filled 27.
        self.assertEqual(timed(PALETTE, TWO, 27), (Timetable([(0, 5), (14, 17)], 27), None))
        self.barred(TWO, timed(PALETTE, TWO, 26), 26)

    def test_no_single_row_gives_the_length(self):
        self.assertEqual(timed(PALETTE, SHARED_TEAM, 15), (Timetable([(0, 5), (5, 12)], 15), None))
        self.barred(SHARED_TEAM, timed(PALETTE, SHARED_TEAM, 14), 14)

    def test_a_time_put_off_by_a_later_row(self):
        rows = [("p", "t", "amber", 3), ("q", "u", "blue", 9), ("r", "t", "blue", 20)]
        for length in range(23, 40):
            answer = slow_times(rows, length)
            self.assertEqual(timed(PALETTE, rows, length), (Timetable(answer, length), None))
        # The last row's work holds up the first one's in the next round, so that it begins later than it's ready.
        rows = [("p", "t", "blue", 1), ("q", "u", "amber", 1), ("r", "t", "amber", 10)]
        self.assertEqual(timed(PALETTE, rows, 15)[0], Timetable(slow_times(rows, 15), 15))
        self.assertEqual(timed(PALETTE, rows, 15)[0], Timetable([(0, 5), (3, 8), (5, 10)], 15))

    def test_twelve_rows(self):
        least = slow_least(TWELVE)
        for length in (least, least + 1, least + 50):
            told = timed(PALETTE, TWELVE, length)
            self.kept(TWELVE, told, length)
            self.assertEqual(times_of(told[0]), slow_times(TWELVE, length))
        for length in (least - 1, least - 2, least // 2, 1, 0):
            self.barred(TWELVE, timed(PALETTE, TWELVE, length), length)

    def test_as_hour_by_hour(self):
        rng = random.Random(21)
        answers = []
        for _ in range(150):
            rows = random_rows(rng, 5)
            before = list(rows)
            length = rng.randrange(60)
            times = slow_times(rows, length)
            told = timed(PALETTE, rows, length)
            self.assertEqual(rows, before)
            answers.append(times is None)
            if times is None:
                self.barred(rows, told, length)
            else:
                self.kept(rows, told, length)
                self.assertEqual(times_of(told[0]), times)
        self.assertGreater(answers.count(True), 20)
        self.assertGreater(answers.count(False), 20)

    def test_each_length_of_many_rows(self):
        rng = random.Random(22)
        for _ in range(30):
            rows = random_rows(rng, 12, "pqrs", "tuvw")
            least = shortest(PALETTE, rows)[0].length
            for length in sorted({0, 1, 2, least // 3, least // 2, least - 2, least - 1} & set(range(least))):
                self.barred(rows, timed(PALETTE, rows, length), length)
            for length in (least, least + 1, 10 ** 6):
                self.kept(rows, timed(PALETTE, rows, length), length)

    def test_by_names(self):
        self.assertEqual(timed(length=12, rows=ONE, palette=PALETTE), (Timetable([(0, 5)], 12), None))

    def test_told_the_same_and_the_askers_own(self):
        ring = timed(PALETTE, TWO, 3)[1]
        kept = list(ring)
        ring.clear()
        self.assertEqual(timed(PALETTE, TWO, 3), (None, kept))
        rows = list(TWO)
        told = timed(PALETTE, rows, 30)
        rows[0] = ("p", "t", "amber", 99)
        self.assertEqual(told, (Timetable([(0, 5), (14, 17)], 30), None))
        self.barred(rows, timed(PALETTE, rows, 30), 30)

    def test_refused_whatever_length_is_handed_beside(self):
        for length in (0, 1, 26, 10 ** 6, -1, 10 ** 30, None):
            self.refused(lambda rows: timed(PALETTE, rows, length), NEVER, "amber", "clear")
        turned = [("q", "t", "blue", 1), ("p", "t", "clear", 9), ("p", "u", "amber", 5)]
        self.refused(lambda rows: timed(PALETTE, rows, 99), turned, "amber", "clear")


class Shortest(Checks):
    def told(self, rows, length):
        before = list(rows)
        told = shortest(PALETTE, rows)
        self.assertEqual(rows, before)
        self.assertIsInstance(told, tuple)
        timetable, ring = told
        self.assertIsInstance(timetable, Timetable)
        self.earliest(rows, timetable, length)
        self.assertIs(is_ring(PALETTE, rows, length - 1, ring), True)
        self.assertIs(is_ring(PALETTE, rows, length, ring), False)
        self.assertEqual(timed(PALETTE, rows, length), (timetable, None))

    def test_one_row(self):
        self.told(ONE, 12)
        self.assertEqual(shortest(PALETTE, ONE)[0], Timetable([(0, 5)], 12))
        self.told([("p", "t", "clear", 1)], 4)
        self.told([("p", "t", "blue", 99)], 102)

    def test_two_rows(self):
        self.told(TWO, 27)

    def test_no_single_row_gives_the_length(self):
        self.told(SHARED_TEAM, 15)

    def test_the_gang_that_fills(self):
        rows = [(pot, pot, "blue", 1) for pot in "abcdefghijkl"]
        self.told(rows, 36)

    def test_a_ring_of_several_overs(self):
        self.told(TWO_OVERS, 9)
        self.assertEqual(slow_least(TWO_OVERS), 9)
        steps = steps_of(PALETTE, TWO_OVERS)
        hours, overs = (sum(steps[number][part] for number in shortest(PALETTE, TWO_OVERS)[1]) for part in (2, 3))
        self.assertEqual((hours, overs), (17, 2))

    def test_twelve_rows(self):
        self.told(TWELVE, slow_least(TWELVE))

    def test_against_a_slow_search(self):
        rng = random.Random(24)
        for _ in range(60):
            rows = random_rows(rng, 4)
            self.told(rows, slow_least(rows))

    def test_by_names(self):
        self.assertEqual(shortest(rows=ONE, palette=PALETTE)[0], Timetable([(0, 5)], 12))

    def test_told_the_same_and_the_askers_own(self):
        timetable, ring = shortest(PALETTE, TWELVE)
        kept = list(ring)
        ring.clear()
        self.assertEqual(shortest(PALETTE, TWELVE), (timetable, kept))

    def test_refused(self):
        self.refused(lambda rows: shortest(PALETTE, rows), NEVER, "amber", "clear")
        first = [("q", "t", "clear", 1), ("p", "t", "amber", 5), ("p", "t", "clear", 9), ("q", "t", "amber", 1)]
        self.refused(lambda rows: shortest(PALETTE, rows), first, "amber", "clear")


if __name__ == "__main__":
    unittest.main()
