import random
import unittest

from potround.endless import shortest, timed
from potround.errors import NoSuch
from potround.rounding import glass_in, round_state, turns_of
from potround.timetables import Timetable, keeps
from potround.turns import fault_of, is_turns, state_at

PALETTE = (
    (("amber", 2, 3, 40), ("blue", 3, 0, 25), ("clear", 1, 2, 60)),
    (("amber", "blue", 4), ("amber", "clear", None), ("blue", "amber", 1), ("clear", "amber", 2)),
)
CHARGE = {row[0]: row[1] for row in PALETTE[0]}
MELT = {row[0]: row[2] for row in PALETTE[0]}
WASH = {(row[0], row[1]): row[2] for row in PALETTE[1]}
# p: row 0 filled 3, melting 5, ready 8, worked 10 to 15, washed 4, out 19 to 20; row 2 filled 20, ready 23, worked 25
# to 30, washed 1 to 31, out till 3 + 30. q: row 1 filled 6, melting 7, ready 9, worked 15 to 18.
ROWS = [("p", "t", "amber", 5), ("q", "t", "clear", 3), ("p", "u", "blue", 5)]
TABLE = Timetable([(3, 10), (6, 15), (20, 25)], 30)
SINGLE = [("p", "t", "amber", 7)]
SINGLE_TABLE = Timetable([(4, 11)], 20)


def random_round(rng):
    """Rows with a timetable that keeps them."""
    rows = [(rng.choice("pqr"), rng.choice("tu"), rng.choice(["amber", "blue"]), rng.randrange(1, 5))
            for _ in range(rng.randrange(1, 6))]
    length = shortest(PALETTE, rows)[0].length + rng.randrange(4)
    table = timed(PALETTE, rows, length)[0]
    late = rng.randrange(5)
    times = [(fill + late, work + late) for fill, work in [table.pair(number) for number in range(len(rows))]]
    return rows, Timetable(times, length)


def slow_state(rows, table, pot, hour):
    """The state as the document's words have it, round by round."""
    fills = [(table.pair(number, often)[0], number, often) for often in range(hour // table.length + 3)
             for number, row in enumerate(rows) if row[0] == pot]
    by_then = [at for at, (fill, number, often) in enumerate(fills) if fill <= hour]
    if not by_then:
        return ("out", None, None)
    fill, number, often = fills[by_then[-1]]
    colour, hours = rows[number][2:]
    following = rows[fills[by_then[-1] + 1][1]][2]
    work = table.pair(number, often)[1]
    ends = [("filled", fill + CHARGE[colour]), ("melting", fill + CHARGE[colour] + MELT[colour]), ("ready", work),
            ("worked", work + hours), ("washed", work + hours + WASH.get((colour, following), 0))]
    return (next((word for word, end in ends if hour < end), "out"), number, often)


class RoundState(unittest.TestCase):
    def told(self, pot, state, *hours, rows=ROWS, table=TABLE):
        for hour in hours:
            self.assertEqual(round_state(PALETTE, rows, table, pot, hour), state, hour)

    def test_the_tables_keep(self):
        self.assertIs(keeps(PALETTE, ROWS, TABLE), True)
        self.assertIs(keeps(PALETTE, SINGLE, SINGLE_TABLE), True)

    def test_ahead_of_all(self):
        self.told("p", ("out", None, None), 0, 1, 2)
        self.told("q", ("out", None, None), 0, 5)
        self.told("p", ("out", None, None), 0, 3, rows=SINGLE, table=SINGLE_TABLE)

    def test_first_and_last_hours(self):
        # 33,333,333,333 rounds of 30 hours are 999,999,999,990 hours, so the last of them end beyond 10 ** 12.
        for often in (0, 1, 2, 1000, 10 ** 6, 33333333330):
            since = 30 * often
            self.told("p", ("filled", 0, often), since + 3, since + 4)
            self.told("p", ("melting", 0, often), since + 5, since + 7)
            self.told("p", ("ready", 0, often), since + 8, since + 9)
            self.told("p", ("worked", 0, often), since + 10, since + 14)
            self.told("p", ("washed", 0, often), since + 15, since + 18)
            self.told("p", ("out", 0, often), since + 19)
            self.told("p", ("filled", 2, often), since + 20, since + 22)
            self.told("p", ("ready", 2, often), since + 23, since + 24)
            self.told("p", ("worked", 2, often), since + 25, since + 29)
            self.told("p", ("washed", 2, often), since + 30)
            self.told("p", ("out", 2, often), since + 31, since + 32)
            self.told("q", ("filled", 1, often), since + 6)
            self.told("q", ("melting", 1, often), since + 7, since + 8)
            self.told("q", ("ready", 1, often), since + 9, since + 14)
            self.told("q", ("worked", 1, often), since + 15, since + 17)
            self.told("q", ("out", 1, often), since + 18, since + 35)

    def test_to_the_last_hour(self):
        # 10 ** 12 is 10 hours behind the begin of round 33,333,333,333.
        self.told("p", ("worked", 0, 33333333333), 10 ** 12)
        self.told("p", ("ready", 0, 33333333333), 10 ** 12 - 1)
        self.told("q", ("ready", 1, 33333333333), 10 ** 12)
        self.told("q", ("out", 1, 33333333332), 10 ** 12 - 5)

    def test_one_row_alone(self):
        for often in (0, 1, 7, 10 ** 9):
            since = 20 * often
            for state, hours in (("filled", (4, 5)), ("melting", (6, 8)), ("ready", (9, 10)), ("worked", (11, 17)),
                                 ("out", (18, 23))):
                self.told("p", (state, 0, often), *[since + hour for hour in hours], rows=SINGLE, table=SINGLE_TABLE)

    def test_filled_as_soon_as_washed(self):
        rows = [("p", "t", "amber", 5), ("p", "t", "blue", 9)]
        table = Timetable([(0, 5), (14, 17)], 27)
        self.told("p", ("filled", 0, 0), 0, 1, rows=rows, table=table)
        self.told("p", ("washed", 0, 0), 10, 13, rows=rows, table=table)
        self.told("p", ("washed", 1, 0), 26, rows=rows, table=table)
        self.told("p", ("filled", 0, 1), 27, rows=rows, table=table)
        self.told("p", ("washed", 1, 99), 99 * 27 + 26, rows=rows, table=table)

    def test_a_first_round_longer_than_the_length(self):
        # The pots' rows overlap the next round's, and the later pot's first fill comes behind the other one's second.
        rows = [("p", "t", "blue", 1), ("q", "u", "blue", 1)]
        table = Timetable([(0, 3), (3, 9)], 7)
        self.assertIs(keeps(PALETTE, rows, table), True)
        self.told("p", ("worked", 0, 1), 10, rows=rows, table=table)
        self.told("q", ("out", None, None), 2, rows=rows, table=table)
        self.told("q", ("ready", 1, 0), 6, 8, rows=rows, table=table)
        self.told("q", ("worked", 1, 0), 9, rows=rows, table=table)
        self.told("q", ("filled", 1, 1), 10, 12, rows=rows, table=table)

    def test_as_the_words_have_it(self):
        rng = random.Random(31)
        words = set()
        for _ in range(60):
            rows, table = random_round(rng)
            before = list(rows), repr(table)
            for pot in sorted({row[0] for row in rows}):
                for hour in range(3 * table.length + 5):
                    state = slow_state(rows, table, pot, hour)
                    words.add(state[0])
                    self.told(pot, state, hour, rows=rows, table=table)
            self.assertEqual((list(rows), repr(table)), before)
        self.assertEqual(words, {"filled", "melting", "ready", "worked", "washed", "out"})

    def test_comes_again_each_round(self):
        rng = random.Random(32)
        for _ in range(40):
            rows, table = random_round(rng)
            for pot in sorted({row[0] for row in rows}):
                begin = max(table.pair(number)[0] for number, row in enumerate(rows) if row[0] == pot)
                hour = begin + rng.randrange(table.length)
                word, number, often = round_state(PALETTE, rows, table, pot, hour)
                rounds = (10 ** 12 - hour) // table.length
                self.told(pot, (word, number, often + rounds), hour + rounds * table.length, rows=rows, table=table)

    def test_by_names(self):
        self.assertEqual(round_state(hour=8, pot="p", timetable=TABLE, rows=ROWS, palette=PALETTE), ("ready", 0, 0))

    def test_refused(self):
        for pot in ("r", "t", "amber", "abcdefgh"):
            for hour in (0, 10, 10 ** 12):
                with self.assertRaises(NoSuch) as caught:
                    round_state(PALETTE, ROWS, TABLE, pot, hour)
                self.assertEqual((caught.exception.what, caught.exception.name), ("pot", pot))


class TurnsOf(unittest.TestCase):
    def told(self, pot, often, turns):
        self.assertEqual(turns_of(PALETTE, ROWS, TABLE, pot, often), turns)

    def test_none_one_and_four(self):
        self.told("p", 0, [])
        self.told("p", 1, [(3, "amber", 10, 15), (20, "blue", 25, 30)])
        self.told("q", 1, [(6, "clear", 15, 18)])
        self.told("q", 4, [(6, "clear", 15, 18), (36, "clear", 45, 48), (66, "clear", 75, 78), (96, "clear", 105, 108)])
        self.told("p", 2, [(3, "amber", 10, 15), (20, "blue", 25, 30), (33, "amber", 40, 45), (50, "blue", 55, 60)])

    def test_without_fault(self):
        rng = random.Random(33)
        for _ in range(100):
            rows, table = random_round(rng)
            for pot in sorted({row[0] for row in rows}):
                for often in range(5):
                    turns = turns_of(PALETTE, rows, table, pot, often)
                    self.assertEqual(len(turns), often * [row[0] for row in rows].count(pot))
                    self.assertIs(is_turns(PALETTE, turns), True)
                    self.assertIsNone(fault_of(PALETTE, turns))

    def test_against_round_state(self):
        rng = random.Random(34)
        for _ in range(40):
            rows, table = random_round(rng)
            for pot in sorted({row[0] for row in rows}):
                numbers = [number for number, row in enumerate(rows) if row[0] == pot]
                turns = turns_of(PALETTE, rows, table, pot, 4)
                # Behind the last of the turns no washing is told, so the hours from its end on are left out.
                for hour in range(turns[-1][3]):
                    word, at = state_at(PALETTE, turns, hour)
                    state = (word, None, None)
                    if at is not None:
                        state = (word, numbers[at % len(numbers)], at // len(numbers))
                    self.assertEqual(round_state(PALETTE, rows, table, pot, hour), state)

    def test_more_turns_than_a_pots_turns_may_be(self):
        rows = [("p", "t", "blue", 1)] * 12
        table = shortest(PALETTE, rows)[0]
        turns = turns_of(PALETTE, rows, table, "p", 4)
        self.assertEqual(len(turns), 48)
        self.assertIsNone(fault_of(PALETTE, turns))
        self.assertEqual(state_at(PALETTE, turns, turns[47][2]), ("worked", 47))

    def test_told_the_same_and_the_askers_own(self):
        told = turns_of(PALETTE, ROWS, TABLE, "q", 1)
        told.append("x")
        turns_of(PALETTE, ROWS, TABLE, "q", 0).append("x")
        self.told("q", 1, [(6, "clear", 15, 18)])
        self.told("q", 0, [])

    def test_by_names(self):
        told = turns_of(often=1, pot="q", timetable=TABLE, rows=ROWS, palette=PALETTE)
        self.assertEqual(told, [(6, "clear", 15, 18)])

    def test_refused(self):
        for often in (0, 1, 4):
            with self.assertRaises(NoSuch) as caught:
                turns_of(PALETTE, ROWS, TABLE, "r", often)
            self.assertEqual((caught.exception.what, caught.exception.name), ("pot", "r"))


class GlassIn(unittest.TestCase):
    def told(self, colour, many, *hours, rows=ROWS, table=TABLE):
        for hour in hours:
            self.assertEqual(glass_in(PALETTE, rows, table, colour, hour), many, (colour, hour))

    def test_first_and_last_hours(self):
        for since in (0, 30, 30 * 33333333330):
            self.told("amber", 0, since + 5, since + 7)
            self.told("amber", 1, since + 8, since + 9, since + 10, since + 14)
            self.told("amber", 0, since + 15, since + 20)
            self.told("blue", 0, since + 19, since + 20, since + 22)
            self.told("blue", 1, since + 23, since + 24, since + 25, since + 29)
            self.told("blue", 0, since + 30, since + 31)
            self.told("clear", 0, since + 8)
            self.told("clear", 1, since + 9, since + 17)
            self.told("clear", 0, since + 18)

    def test_no_pot(self):
        self.told("amber", 0, 0, 1, 2)
        self.told("blue", 0, 0, 10, 10 ** 12, rows=SINGLE, table=SINGLE_TABLE)

    def test_several_pots(self):
        # Filled at 0, 3 and 6, each ready at once, and worked from 8, 10 and 11 on.
        rows = [("p", "t", "blue", 3), ("q", "u", "blue", 1), ("r", "v", "blue", 2)]
        table = Timetable([(0, 8), (3, 10), (6, 11)], 14)
        self.assertIs(keeps(PALETTE, rows, table), True)
        for since in (0, 14, 14 * 10 ** 9):
            for many, *hours in ((1, 3, 5), (2, 6, 8), (3, 9, 10), (1, 11, 12), (0, 13)):
                self.told("blue", many, *[since + hour for hour in hours], rows=rows, table=table)
            self.told("amber", 0, since, since + 9, rows=rows, table=table)

    def test_a_pot_of_several_rows_counts_once(self):
        rows = [("p", "t", "blue", 3), ("p", "t", "blue", 3)]
        table = Timetable([(0, 3), (6, 9)], 12)
        self.told("blue", 1, 3, 5, 9, 11, 15, rows=rows, table=table)
        self.told("blue", 0, 0, 6, 8, 12, rows=rows, table=table)

    def test_as_the_words_have_it(self):
        rng = random.Random(35)
        most = 0
        for _ in range(40):
            rows, table = random_round(rng)
            for hour in range(2 * table.length + 5):
                for colour in CHARGE:
                    states = [slow_state(rows, table, pot, hour) for pot in sorted({row[0] for row in rows})]
                    many = sum(word in ("ready", "worked") and rows[number][2] == colour for word, number, _ in states)
                    most = max(most, many)
                    self.told(colour, many, hour, rows=rows, table=table)
        self.assertGreater(most, 1)

    def test_by_names(self):
        self.assertEqual(glass_in(hour=9, colour="clear", timetable=TABLE, rows=ROWS, palette=PALETTE), 1)


if __name__ == "__main__":
    unittest.main()
