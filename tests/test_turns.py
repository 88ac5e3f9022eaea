import copy
import itertools
import random
import unittest

from potround.turns import fault_of, hours_in, is_turns, spare_of, state_at, stretches
from tests.things import check_bent, check_odd

PALETTE = (
    (("amber", 2, 3, 40), ("blue", 3, 0, 25), ("clear", 1, 2, 60)),
    (("amber", "blue", 4), ("amber", "clear", None), ("blue", "amber", 1), ("clear", "amber", 2)),
)
# Ready at 15, spare 2; washed 21 to 25; no melting, none ready; no washing behind; then clear with washing 2.
TURNS = [(10, "amber", 17, 21), (27, "blue", 30, 33), (33, "clear", 40, 41), (43, "amber", 48, 50)]
WORDS = ("filled", "melting", "ready", "worked", "washed", "out")
CHARGE = {row[0]: row[1] for row in PALETTE[0]}
MELT = {row[0]: row[2] for row in PALETTE[0]}
WASH = {(row[0], row[1]): row[2] for row in PALETTE[1]}


def random_turns(rng):
    """Turns without fault."""
    turns = []
    hour = rng.randrange(6)
    ahead = None
    for _ in range(rng.randrange(6)):
        colour = rng.choice([name for name in CHARGE if WASH.get((ahead, name), 0) is not None])
        at = hour + WASH.get((ahead, colour), 0) + rng.randrange(3)
        begin = at + CHARGE[colour] + MELT[colour] + rng.randrange(3)
        hour = begin + rng.randrange(1, 5)
        turns.append((at, colour, begin, hour))
        ahead = colour
    return turns


def slow_state(turns, hour):
    """The state as the document's words have it, word by word."""
    filled = [number for number, turn in enumerate(turns) if turn[0] <= hour]
    if not filled:
        return ("out", None)
    number = filled[-1]
    at, colour, begin, end = turns[number]
    wash = 0
    if number + 1 < len(turns):
        wash = WASH.get((colour, turns[number + 1][1]), 0)
    if hour < at + CHARGE[colour]:
        return ("filled", number)
    if hour < at + CHARGE[colour] + MELT[colour]:
        return ("melting", number)
    if hour < begin:
        return ("ready", number)
    if hour < end:
        return ("worked", number)
    return ("washed" if hour < end + wash else "out", number)


class IsTurns(unittest.TestCase):
    def right(self, thing):
        before = copy.deepcopy(thing)
        self.assertIs(is_turns(PALETTE, thing), True, thing)
        self.assertEqual(thing, before)

    def wrong(self, thing):
        before = copy.deepcopy(thing)
        self.assertIs(is_turns(PALETTE, thing), False, thing)
        self.assertEqual(repr(thing), repr(before))

    def test_ordinary(self):
        self.right(TURNS)
        self.right(TURNS[:1])
        self.assertIs(is_turns(thing=TURNS, palette=PALETTE), True)

    def test_how_many(self):
        for many in (0, 1, 29, 30):
            self.right([(3 * at, "amber", 3 * at + 1, 3 * at + 2) for at in range(many)])
        for many in (31, 32, 60):
            self.wrong([(3 * at, "amber", 3 * at + 1, 3 * at + 2) for at in range(many)])

    def test_hours(self):
        self.right([(0, "amber", 1, 2)])
        self.right([(10 ** 6 - 2, "amber", 10 ** 6 - 1, 10 ** 6)])
        self.right([(0, "amber", 1, 10 ** 6)])
        self.wrong([(-1, "amber", 1, 2)])
        self.wrong([(0, "amber", 1, 10 ** 6 + 1)])
        self.wrong([(0, "amber", 10 ** 6 + 1, 10 ** 6 + 2)])
        self.wrong([(10 ** 6 + 1, "amber", 10 ** 6 + 2, 10 ** 6 + 3)])
        self.wrong([(-3, "amber", -2, -1)])

    def test_at_below_begin_below_end(self):
        self.wrong([(5, "amber", 5, 6)])
        self.wrong([(6, "amber", 5, 7)])
        self.wrong([(4, "amber", 5, 5)])
        self.wrong([(3, "amber", 5, 4)])

    def test_each_at_greater(self):
        # Faults are no matter here: turns may overlap.
        self.right([(4, "amber", 9, 10), (5, "amber", 9, 10)])
        self.wrong([(5, "amber", 9, 10), (5, "blue", 9, 10)])
        self.wrong([(5, "amber", 9, 10), (4, "blue", 9, 10)])
        self.wrong([(1, "amber", 2, 3), (7, "amber", 8, 9), (6, "amber", 8, 9)])

    def test_colour_of_the_palette(self):
        for colour in ("mauve", "", "Amber", None, True, 0, ["amber"], ("amber",), ()):
            self.wrong([(1, colour, 2, 3)])

    def test_other_things_in_a_numbers_place(self):
        for place in (0, 2, 3):
            for part in (True, False, None, "1", (), [1]):
                turn = [0, "amber", 1, 2]
                turn[place] = part
                self.wrong([tuple(turn)])
        self.wrong([(False, "amber", 1, 2)])
        self.wrong([(0, "amber", True, 2)])

    def test_shapes(self):
        self.wrong(tuple(TURNS))
        self.wrong(())
        self.wrong([[0, "amber", 1, 2]])
        self.wrong([(0, "amber", 1)])
        self.wrong([(0, "amber", 1, 2, 3)])
        self.wrong((0, "amber", 1, 2))
        self.wrong([0, "amber", 1, 2])
        self.wrong([None])

    def test_any_other_thing(self):
        check_odd(self, lambda thing: is_turns(PALETTE, thing))
        check_bent(self, lambda thing: is_turns(PALETTE, thing), TURNS)


class FaultOf(unittest.TestCase):
    def told(self, turns, fault):
        before = list(turns)
        self.assertEqual(fault_of(PALETTE, turns), fault)
        self.assertEqual(turns, before)

    def test_none(self):
        self.told([], None)
        self.told(TURNS, None)
        self.assertIsNone(fault_of(turns=TURNS[:1], palette=PALETTE))

    def test_without_fault_at_random(self):
        rng = random.Random(2)
        for _ in range(200):
            self.told(random_turns(rng), None)

    def test_over(self):
        self.told([(0, "blue", 5, 9), (8, "blue", 20, 22)], (1, "over", 1))
        self.told([(0, "blue", 5, 9), (1, "blue", 20, 22)], (1, "over", 8))
        self.told([(0, "blue", 5, 9), (9, "blue", 20, 22)], None)

    def test_never(self):
        self.told([(0, "amber", 5, 9), (50, "clear", 60, 61)], (1, "never", None))
        self.told([(0, "amber", 5, 9), (9, "clear", 60, 61)], (1, "never", None))

    def test_spoilt(self):
        self.told([(0, "amber", 5, 9), (13, "blue", 20, 22)], None)
        self.told([(0, "amber", 5, 9), (12, "blue", 20, 22)], (1, "spoilt", 1))
        self.told([(0, "amber", 5, 9), (9, "blue", 20, 22)], (1, "spoilt", 4))

    def test_early(self):
        self.told([(4, "amber", 9, 10)], None)
        self.told([(4, "amber", 8, 10)], (0, "early", 1))
        self.told([(4, "amber", 5, 10)], (0, "early", 4))
        self.told([(0, "blue", 3, 4), (4, "blue", 6, 10)], (1, "early", 1))

    def test_two_at_one_turn(self):
        self.told([(0, "amber", 5, 9), (8, "clear", 10, 11)], (1, "over", 1))
        self.told([(0, "amber", 5, 9), (8, "blue", 10, 12)], (1, "over", 1))
        self.told([(0, "blue", 5, 9), (8, "blue", 9, 12)], (1, "over", 1))
        self.told([(0, "amber", 5, 9), (9, "clear", 10, 12)], (1, "never", None))
        self.told([(0, "amber", 5, 9), (10, "blue", 11, 12)], (1, "spoilt", 3))

    def test_two_turns_the_least_number(self):
        self.told([(0, "amber", 4, 9), (8, "clear", 10, 11)], (0, "early", 1))
        self.told([(0, "blue", 3, 4), (4, "blue", 6, 8), (7, "blue", 20, 21)], (1, "early", 1))
        self.told([(0, "blue", 3, 4), (4, "blue", 7, 8), (8, "amber", 30, 31), (20, "blue", 40, 41)],
                  (2, "spoilt", 1))

    def test_each_by_the_turn_just_ahead(self):
        self.told([(0, "amber", 5, 9), (13, "blue", 20, 22), (22, "clear", 30, 31)], None)


class StateAt(unittest.TestCase):
    def told(self, turns, state, *hours):
        for hour in hours:
            self.assertEqual(state_at(PALETTE, turns, hour), state, hour)

    def test_first_and_last_hours(self):
        self.told(TURNS, ("out", None), 0, 1, 9)
        self.told(TURNS, ("filled", 0), 10, 11)
        self.told(TURNS, ("melting", 0), 12, 14)
        self.told(TURNS, ("ready", 0), 15, 16)
        self.told(TURNS, ("worked", 0), 17, 20)
        self.told(TURNS, ("washed", 0), 21, 24)
        self.told(TURNS, ("out", 0), 25, 26)
        self.told(TURNS, ("filled", 1), 27, 29)
        self.told(TURNS, ("worked", 1), 30, 32)
        self.told(TURNS, ("filled", 2), 33)
        self.told(TURNS, ("melting", 2), 34, 35)
        self.told(TURNS, ("ready", 2), 36, 39)
        self.told(TURNS, ("worked", 2), 40)
        self.told(TURNS, ("washed", 2), 41, 42)
        self.told(TURNS, ("filled", 3), 43, 44)
        self.told(TURNS, ("worked", 3), 48, 49)
        self.told(TURNS, ("out", 3), 50, 51, 10 ** 6)

    def test_no_turns(self):
        self.told([], ("out", None), 0, 5, 10 ** 6)

    def test_from_hour_nought(self):
        self.told([(0, "blue", 3, 4)], ("filled", 0), 0, 2)

    def test_by_names(self):
        self.assertEqual(state_at(hour=12, turns=TURNS, palette=PALETTE), ("melting", 0))

    def test_turns_changed_in_place(self):
        turns = list(TURNS)
        self.told(turns, ("out", 3), 60)
        turns.append((55, "blue", 60, 62))
        self.told(turns, ("worked", 4), 60)
        self.told(turns, ("washed", 3), 50, 53)

    def test_as_the_words_have_it(self):
        rng = random.Random(6)
        for _ in range(200):
            turns = random_turns(rng)
            for hour in range(80):
                self.told(turns, slow_state(turns, hour), hour)


class Stretches(unittest.TestCase):
    def test_ordinary(self):
        self.assertEqual(stretches(PALETTE, TURNS, 0, 60), [
            ("out", None, 0, 10), ("filled", 0, 10, 12), ("melting", 0, 12, 15), ("ready", 0, 15, 17),
            ("worked", 0, 17, 21), ("washed", 0, 21, 25), ("out", 0, 25, 27),
            ("filled", 1, 27, 30), ("worked", 1, 30, 33),
            ("filled", 2, 33, 34), ("melting", 2, 34, 36), ("ready", 2, 36, 40), ("worked", 2, 40, 41),
            ("washed", 2, 41, 43),
            ("filled", 3, 43, 45), ("melting", 3, 45, 48), ("worked", 3, 48, 50), ("out", 3, 50, 60),
        ])

    def test_cut_at_first_and_last(self):
        self.assertEqual(stretches(PALETTE, TURNS, 11, 16),
                         [("filled", 0, 11, 12), ("melting", 0, 12, 15), ("ready", 0, 15, 16)])
        self.assertEqual(stretches(PALETTE, TURNS, 18, 19), [("worked", 0, 18, 19)])
        self.assertEqual(stretches(PALETTE, TURNS, 2, 4), [("out", None, 2, 4)])
        self.assertEqual(stretches(PALETTE, TURNS, 70, 10 ** 6), [("out", 3, 70, 10 ** 6)])
        self.assertEqual(stretches(PALETTE, [], 3, 9), [("out", None, 3, 9)])
        self.assertEqual(stretches(last=18, first=16, turns=TURNS, palette=PALETTE),
                         [("ready", 0, 16, 17), ("worked", 0, 17, 18)])

    def test_of_no_hours(self):
        for hour in (0, 10, 12, 20, 26, 60):
            self.assertEqual(stretches(PALETTE, TURNS, hour, hour), [])
        self.assertEqual(stretches(PALETTE, [], 5, 5), [])

    def test_lists_are_the_askers_own(self):
        stretches(PALETTE, TURNS, 5, 5).append("x")
        stretches(PALETTE, TURNS, 0, 2).append("x")
        self.assertEqual(stretches(PALETTE, TURNS, 5, 5), [])
        self.assertEqual(stretches(PALETTE, TURNS, 0, 2), [("out", None, 0, 2)])

    def test_as_hour_by_hour(self):
        rng = random.Random(7)
        for _ in range(200):
            turns = random_turns(rng)
            before = list(turns)
            first = rng.randrange(50)
            last = first + rng.randrange(40)
            told = []
            for state, hours in itertools.groupby(range(first, last), lambda hour: slow_state(turns, hour)):
                hours = list(hours)
                told.append((*state, hours[0], hours[-1] + 1))
            self.assertEqual(stretches(PALETTE, turns, first, last), told)
            self.assertEqual(turns, before)


class HoursIn(unittest.TestCase):
    def test_each_word(self):
        told = [hours_in(PALETTE, TURNS, word, 0, 60) for word in WORDS]
        self.assertEqual(told, [2 + 3 + 1 + 2, 3 + 2 + 3, 2 + 4, 4 + 3 + 1 + 2, 4 + 2, 10 + 2 + 10])

    def test_first_and_last_left_out(self):
        told = [hours_in(PALETTE, TURNS, word) for word in WORDS]
        self.assertEqual(told, [2, 3, 2, 4, 3, 10])
        self.assertEqual(hours_in(PALETTE, TURNS, "out", 4), 6)
        self.assertEqual(hours_in(PALETTE, TURNS, "worked", last=18), 1)
        self.assertEqual(hours_in(palette=PALETTE, turns=TURNS, word="ready", first=16, last=37), 2)

    def test_no_hours(self):
        for word in WORDS:
            self.assertEqual(hours_in(PALETTE, TURNS, word, 18, 18), 0)
        self.assertEqual(hours_in(PALETTE, [], "out"), 24)
        self.assertEqual(hours_in(PALETTE, [], "filled"), 0)

    def test_as_hour_by_hour(self):
        rng = random.Random(9)
        for _ in range(100):
            turns = random_turns(rng)
            first = rng.randrange(50)
            last = first + rng.randrange(40)
            for word in WORDS:
                many = sum(slow_state(turns, hour)[0] == word for hour in range(first, last))
                self.assertEqual(hours_in(PALETTE, turns, word, first, last), many)


class SpareOf(unittest.TestCase):
    def test_none_one_several(self):
        self.assertEqual(spare_of(PALETTE, TURNS, 0), 2)
        self.assertEqual(spare_of(PALETTE, TURNS, 1), 0)
        self.assertEqual(spare_of(PALETTE, TURNS, 2), 4)
        self.assertEqual(spare_of(PALETTE, TURNS, 3), 0)
        self.assertEqual(spare_of(number=0, turns=[(0, "blue", 4, 9)], palette=PALETTE), 1)

    def test_filled_so_much_later_it_is_just_not_early(self):
        rng = random.Random(10)
        for _ in range(100):
            turns = random_turns(rng)
            for number, (at, colour, begin, end) in enumerate(turns):
                later = at + spare_of(PALETTE, turns, number)
                alone = [(later, colour, begin, end)]
                self.assertIsNone(fault_of(PALETTE, alone))
                self.assertEqual(fault_of(PALETTE, [(later + 1, colour, begin, end)]), (0, "early", 1))


if __name__ == "__main__":
    unittest.main()
