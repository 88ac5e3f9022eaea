import copy
import random
import unittest

from potround.breaking import broken, last_warm, shows_broken
from potround.turns import fault_of
from tests.test_turns import random_turns
from tests.things import bent, check_bent, check_odd

PALETTE = (
    (("amber", 2, 3, 40), ("blue", 3, 0, 25), ("clear", 1, 2, 60)),
    (("amber", "blue", 4), ("amber", "clear", None), ("blue", "amber", 1), ("clear", "amber", 2)),
)
READY = {row[0]: row[1] + row[2] for row in PALETTE[0]}
WASH = {(row[0], row[1]): row[2] for row in PALETTE[1]}
# Ready at 15, spare 2, washed 21 to 25, out 2; blue begins when it's ready; clear follows without a washing, ready at
# 36, spare 4; washed 41 to 43, amber begins when it's ready.
TURNS = [(10, "amber", 17, 21), (27, "blue", 30, 33), (33, "clear", 40, 41), (43, "amber", 48, 50)]


def slow_broken(turns, hour, warm):
    """What the document's words tell, turn by turn."""
    ended = [turn for turn in turns if turn[3] <= hour]
    lost = [number for number, turn in enumerate(turns) if turn[0] <= hour and turn[3] > hour]
    numbers = [number for number, turn in enumerate(turns) if turn[0] > hour]
    behind = []
    for number in numbers:
        at, colour, begin, end = turns[number]
        if not behind:
            new_at = max(at, hour + warm)
        else:
            new_at = max(at, behind[-1][3] + WASH.get((behind[-1][1], colour), 0))
        new_begin = max(begin, new_at + READY[colour])
        behind.append((new_at, colour, new_begin, new_begin + (end - begin)))
    moved = [number for number, turn in zip(numbers, behind) if turn != turns[number]]
    return (ended, lost[0] if lost else None, behind, moved)


class Broken(unittest.TestCase):
    def told(self, turns, hour, warm, answer):
        before = list(turns)
        told = broken(PALETTE, turns, hour, warm)
        self.assertEqual(told, answer)
        self.assertEqual([kind.__class__ for kind in told], [list, type(answer[1]), list, list])
        self.assertEqual(turns, before)
        self.assertIsNone(fault_of(PALETTE, told[0]))
        self.assertIsNone(fault_of(PALETTE, told[2]))

    def test_no_turns(self):
        self.told([], 5, 0, ([], None, [], []))
        self.assertEqual(broken(PALETTE, [], 0), ([], None, [], []))

    def test_ahead_of_all(self):
        self.told(TURNS, 0, 10, ([], None, TURNS, []))
        self.told(TURNS, 9, 1, ([], None, TURNS, []))
        self.told(TURNS, 9, 0, ([], None, TURNS, []))
        self.told(TURNS, 0, 0, ([], None, TURNS, []))

    def test_behind_all(self):
        self.told(TURNS, 50, 24, (TURNS, None, [], []))
        self.told(TURNS, 10 ** 6, 10 ** 4, (TURNS, None, [], []))

    def test_within_a_turn(self):
        # Filled by then: from the very hour of its fill on; ended: from the very hour of its end on.
        for hour in (10, 15, 20):
            self.told(TURNS, hour, 0, ([], 0, TURNS[1:], []))
        self.told(TURNS, 21, 0, (TURNS[:1], None, TURNS[1:], []))
        self.told(TURNS, 27, 0, (TURNS[:1], 1, TURNS[2:], []))
        self.told(TURNS, 32, 0, (TURNS[:1], 1, TURNS[2:], []))
        self.told(TURNS, 33, 0, (TURNS[:2], 2, TURNS[3:], []))
        self.told(TURNS, 49, 24, (TURNS[:3], 3, [], []))

    def test_between_two(self):
        self.told(TURNS, 21, 6, (TURNS[:1], None, TURNS[1:], []))
        self.told(TURNS, 26, 1, (TURNS[:1], None, TURNS[1:], []))
        self.told(TURNS, 42, 1, (TURNS[:3], None, TURNS[3:], []))

    def test_moved_by_one_hour(self):
        # Blue has no spare, so clear's fill is moved, but it begins as told: amber behind it isn't moved.
        self.told(TURNS, 26, 2, (TURNS[:1], None, [(28, "blue", 31, 34), (34, "clear", 40, 41), TURNS[3]], [1, 2]))

    def test_fill_moved_alone(self):
        self.told(TURNS, 9, 2, ([], None, [(11, "amber", 17, 21)] + TURNS[1:], [0]))
        self.told(TURNS, 9, 3, ([], None, [(12, "amber", 17, 21)] + TURNS[1:], [0]))

    def test_begin_moved_by_ready_at(self):
        self.told(TURNS, 9, 4, ([], None, [(13, "amber", 18, 22)] + TURNS[1:], [0]))
        self.told(TURNS, 9, 6, ([], None, [(15, "amber", 20, 24), (28, "blue", 31, 34), (34, "clear", 40, 41), TURNS[3]],
                                [0, 1, 2]))

    def test_all_moved(self):
        self.told(TURNS, 9, 24, ([], None, [(33, "amber", 38, 42), (46, "blue", 49, 52), (52, "clear", 55, 56),
                                            (58, "amber", 63, 65)], [0, 1, 2, 3]))
        self.told(TURNS, 30, 10 ** 4, (TURNS[:1], 1, [(10030, "clear", 10033, 10034), (10036, "amber", 10041, 10043)],
                                       [2, 3]))

    def test_a_new_pot_needs_no_washing(self):
        # Amber was lost, or ended, ahead of blue; its washing of 4 hours went with the old pot.
        turns = [(10, "amber", 17, 22), (26, "blue", 30, 33)]
        self.told(turns, 21, 9, ([], 0, [(30, "blue", 33, 36)], [1]))
        self.told(turns, 22, 8, (turns[:1], None, [(30, "blue", 33, 36)], [1]))

    def test_none_moved_behind_the_first_that_needn_t(self):
        turns = [(0, "blue", 3, 4), (10, "blue", 13, 14), (14, "blue", 17, 18), (30, "blue", 33, 34),
                 (34, "blue", 37, 38)]
        self.told(turns, 5, 8, (turns[:1], None, [(13, "blue", 16, 17), (17, "blue", 20, 21)] + turns[3:], [1, 2]))

    def test_warm_left_out(self):
        self.assertEqual(broken(PALETTE, TURNS, 9), broken(PALETTE, TURNS, 9, 24))
        self.assertNotEqual(broken(PALETTE, TURNS, 9), broken(PALETTE, TURNS, 9, 23))
        self.assertNotEqual(broken(PALETTE, TURNS, 9), broken(PALETTE, TURNS, 9, 25))

    def test_by_names(self):
        self.assertEqual(broken(warm=2, hour=9, turns=TURNS, palette=PALETTE), broken(PALETTE, TURNS, 9, 2))
        self.assertEqual(broken(hour=9, turns=TURNS, palette=PALETTE), broken(PALETTE, TURNS, 9, 24))

    def test_as_the_words_have_it(self):
        rng = random.Random(41)
        lengths = set()
        for _ in range(600):
            turns = random_turns(rng)
            hour = rng.randrange(60)
            warm = rng.choice([0, 0, 1, 2, 3, 5, 8, 13, 10 ** 4])
            answer = slow_broken(turns, hour, warm)
            self.told(turns, hour, warm, answer)
            # The moved ones are the first ones of behind, one behind the other.
            first = len(turns) - len(answer[2])
            self.assertEqual(answer[3], list(range(first, first + len(answer[3]))))
            lengths.add((len(answer[3]), len(answer[3]) < len(answer[2])))
        self.assertTrue({(0, True), (1, True), (2, True), (1, False), (3, False)} <= lengths)

    def test_told_the_same_and_the_askers_own(self):
        turns = list(TURNS)
        told = broken(PALETTE, turns, 26, 2)
        kept = copy.deepcopy(told)
        again = broken(PALETTE, turns, 26, 2)
        turns.clear()
        self.assertEqual(told, kept)
        for part in (0, 2, 3):
            told[part].clear()
        self.assertEqual(again, kept)
        self.assertEqual(broken(PALETTE, TURNS, 26, 2), kept)
        nothing = broken(PALETTE, [], 26, 2)
        nothing[0].append("x")
        self.assertEqual(nothing, (["x"], None, [], []))

    def test_handed_in_again(self):
        behind = broken(PALETTE, TURNS, 9, 10 ** 4)[2]
        for _ in range(200):
            behind = broken(PALETTE, behind, behind[0][0] - 1, 10 ** 4)[2]
        self.assertGreater(behind[0][0], 10 ** 6)
        self.assertEqual(broken(PALETTE, behind, 9, 0), ([], None, behind, []))


class ShowsBroken(unittest.TestCase):
    def asked(self, thing, answer, turns=TURNS, hour=26, warm=2):
        before = copy.deepcopy(thing)
        self.assertIs(shows_broken(PALETTE, turns, hour, warm, thing), answer, thing)
        self.assertEqual(repr(thing), repr(before))

    def test_what_broken_tells(self):
        rng = random.Random(42)
        for _ in range(200):
            turns = random_turns(rng)
            hour = rng.randrange(60)
            warm = rng.choice([0, 1, 3, 10, 10 ** 4])
            self.asked(broken(PALETTE, turns, hour, warm), True, turns, hour, warm)
        self.asked(([], None, [], []), True, [], 0, 0)

    def test_of_another_question(self):
        told = broken(PALETTE, TURNS, 26, 2)
        self.asked(told, True)
        self.asked(told, False, TURNS, 26, 3)
        self.asked(told, False, TURNS, 27, 2)
        self.asked(told, False, TURNS[1:])
        self.asked(broken(PALETTE, TURNS, 26, 24), False)

    def test_one_thing_otherwise(self):
        ended, lost, behind, moved = broken(PALETTE, TURNS, 30, 4)
        self.assertEqual((lost, moved), (1, [2]))
        told = (ended, lost, behind, moved)
        self.asked(told, True, TURNS, 30, 4)
        for other in ((ended, None, behind, moved), (ended, 0, behind, moved), (ended, 2, behind, moved),
                      ([], lost, behind, moved), (ended * 2, lost, behind, moved), (ended, lost, behind[1:], moved),
                      (ended, lost, behind[:1], moved), (ended, lost, behind[::-1], moved), (ended, lost, behind, []),
                      (ended, lost, behind, [2, 3]), (ended, lost, behind, [3]), (ended, lost, behind, moved * 2),
                      (ended, lost, TURNS[2:], moved), (behind, lost, ended, moved)):
            self.asked(other, False, TURNS, 30, 4)
        for at in range(4):
            for by in (-1, 1):
                turn = list(behind[0])
                turn[at] = "blue" if at == 1 else turn[at] + by
                self.asked((ended, lost, [tuple(turn), behind[1]], moved), False, TURNS, 30, 4)

    def test_true_and_false_in_a_numbers_place(self):
        turns = [(0, "blue", 3, 4), (4, "blue", 7, 8)]
        self.assertEqual(broken(PALETTE, turns, 1, 5), ([], 0, [(6, "blue", 9, 10)], [1]))
        self.asked(([], 0, [(6, "blue", 9, 10)], [1]), True, turns, 1, 5)
        self.asked(([], False, [(6, "blue", 9, 10)], [1]), False, turns, 1, 5)
        self.asked(([], 0, [(6, "blue", 9, 10)], [True]), False, turns, 1, 5)
        self.assertEqual(broken(PALETTE, turns, 4, 5), ([turns[0]], 1, [], []))
        self.asked(([(0, "blue", 3, 4)], 1, [], []), True, turns, 4, 5)
        self.asked(([(False, "blue", 3, 4)], 1, [], []), False, turns, 4, 5)
        self.asked(([(0, "blue", 3, 4)], True, [], []), False, turns, 4, 5)

    def test_lists_and_tuples(self):
        ended, lost, behind, moved = broken(PALETTE, TURNS, 26, 2)
        for other in ([ended, lost, behind, moved], (tuple(ended), lost, behind, moved),
                      (ended, lost, tuple(behind), moved), (ended, lost, behind, tuple(moved)),
                      ([list(turn) for turn in ended], lost, behind, moved),
                      (ended, lost, [list(turn) for turn in behind], moved), (ended, [lost], behind, moved),
                      (ended, lost, behind), (ended, lost, behind, moved, None), ((ended, lost, behind, moved),)):
            self.asked(other, False)

    def test_any_other_thing(self):
        check_odd(self, lambda thing: shows_broken(PALETTE, TURNS, 26, 2, thing))
        told = broken(PALETTE, TURNS, 26, 2)
        check_bent(self, lambda thing: shows_broken(PALETTE, TURNS, 26, 2, thing), told)
        rng = random.Random(43)
        for _ in range(2000):
            thing = bent(rng, told)
            self.asked(thing, repr(thing) == repr(told))

    def test_by_names(self):
        told = broken(PALETTE, TURNS, 9, 2)
        self.assertIs(shows_broken(thing=told, warm=2, hour=9, turns=TURNS, palette=PALETTE), True)


class LastWarm(unittest.TestCase):
    def told(self, turns, hour, number, warm):
        before = list(turns)
        self.assertEqual(last_warm(PALETTE, turns, hour, number), warm)
        self.assertEqual(turns, before)
        self.assertNotIn(number, broken(PALETTE, turns, hour, warm)[3])
        self.assertIn(number, broken(PALETTE, turns, hour, warm + 1)[3])

    def test_the_first_behind(self):
        self.told(TURNS, 0, 0, 10)
        self.told(TURNS, 9, 0, 1)
        self.told(TURNS, 10, 1, 17)
        self.told(TURNS, 26, 1, 1)
        self.told(TURNS, 42, 3, 1)

    def test_later_ones(self):
        # Blue may be filled at 27 at the latest, so amber may end at 23, begin at 19, be filled at 14.
        self.told(TURNS, 9, 1, 5)
        # Clear at 33: blue at 27 still.
        self.told(TURNS, 9, 2, 5)
        # Amber at 43: clear ends at 41, begins at 40, is filled at 37; blue ends at 37, is filled at 31; amber at 18.
        self.told(TURNS, 9, 3, 9)
        self.told(TURNS, 20, 3, 11)
        self.told(TURNS, 26, 3, 5)

    def test_a_lost_one_is_no_matter(self):
        self.told(TURNS, 15, 1, 12)
        self.told(TURNS, 15, 2, 12)

    def test_against_a_slow_search(self):
        rng = random.Random(44)
        asked = 0
        for _ in range(200):
            turns = random_turns(rng)
            hour = rng.randrange(20)
            for number, turn in enumerate(turns):
                if turn[0] > hour:
                    asked += 1
                    still = [warm for warm in range(100) if number not in slow_broken(turns, hour, warm)[3]]
                    self.told(turns, hour, number, max(still))
        self.assertGreater(asked, 200)

    def test_of_any_size(self):
        self.told([(10 ** 6 - 9, "blue", 10 ** 6 - 3, 10 ** 6)], 0, 0, 10 ** 6 - 9)
        great = [(10 ** 40, "blue", 10 ** 40 + 3, 10 ** 40 + 7), (10 ** 50, "blue", 10 ** 50 + 3, 10 ** 60)]
        self.told(great, 5, 0, 10 ** 40 - 5)
        self.told(great, 5, 1, 10 ** 50 - 7 - 5)

    def test_by_names(self):
        self.assertEqual(last_warm(number=1, hour=9, turns=TURNS, palette=PALETTE), 5)


if __name__ == "__main__":
    unittest.main()
