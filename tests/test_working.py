import copy
import random
import unittest

from potround.gathercheck import shows_lack
from potround.turns import fault_of
from potround.working import offers_of, wants_of, worked_by
from tests.test_gathering import slow_first

PALETTE = (
    (("amber", 2, 3, 4), ("blue", 3, 0, 2), ("clear", 1, 2, 60)),
    (("amber", "blue", 4), ("amber", "clear", None), ("blue", "amber", 1), ("clear", "amber", 2)),
)
GATHERS = {row[0]: row[3] for row in PALETTE[0]}
POTS = [
    [(0, "amber", 5, 9), (13, "blue", 16, 20)],
    [],
    [(0, "blue", 3, 8), (9, "amber", 14, 18), (18, "amber", 24, 30)],
]
TEAMS = [("ann", "amber", 5, 8), ("bob", "blue", 4, 6), ("cid", "amber", 14, 18), ("dan", "clear", 0, 60)]


def random_hall(rng):
    """Pots' turns without fault, hours to 12, and teams."""
    pots = []
    for _ in range(rng.randrange(4)):
        turns = []
        hour = rng.randrange(2)
        ahead = None
        while rng.random() < 0.8:
            colour = rng.choice(["amber", "blue"])
            wash = {("amber", "blue"): 4, ("blue", "amber"): 1}.get((ahead, colour), 0)
            at = hour + wash
            begin = at + {"amber": 5, "blue": 3}[colour] + rng.randrange(2)
            hour = begin + rng.randrange(1, 6)
            if hour > 12:
                break
            turns.append((at, colour, begin, hour))
            ahead = colour
        pots.append(turns)
    teams = []
    for name in "abcdef"[:rng.randrange(4)]:
        first = rng.randrange(3, 12)
        teams.append((name, rng.choice(["amber", "blue", "blue"]), first, min(12, first + rng.randrange(1, 4))))
    rng.shuffle(teams)
    return pots, teams


class OffersOf(unittest.TestCase):
    def told(self, colour, offers, pots=POTS):
        before = copy.deepcopy(pots)
        self.assertEqual(offers_of(PALETTE, pots, colour), offers)
        self.assertEqual(pots, before)

    def test_none(self):
        self.told("clear", [])
        self.told("amber", [], [])
        self.told("amber", [], [[], []])
        self.told("amber", [], [[(0, "blue", 3, 8)]])

    def test_several_in_order(self):
        self.told("amber", [(0, 0, 5, 9, 4), (2, 1, 14, 18, 4), (2, 2, 24, 30, 4)])
        self.told("blue", [(0, 1, 16, 20, 2), (2, 0, 3, 8, 2)])

    def test_eight_pots(self):
        pots = [[(0, "clear", 3, 60)]] * 8
        self.told("clear", [(pot, 0, 3, 60, 60) for pot in range(8)], pots)

    def test_the_askers_own(self):
        offers_of(PALETTE, POTS, "clear").append("x")
        self.told("clear", [])

    def test_by_names(self):
        self.assertEqual(offers_of(colour="blue", pots=POTS[:1], palette=PALETTE), [(0, 1, 16, 20, 2)])


class WantsOf(unittest.TestCase):
    def test_none(self):
        self.assertEqual(wants_of([], "amber"), [0] * 60)
        self.assertEqual(wants_of(TEAMS, "mauve", 3), [0, 0, 0])
        self.assertEqual(wants_of([], "amber", 0), [])

    def test_hours(self):
        self.assertEqual(wants_of(TEAMS, "amber"), [0] * 5 + [1] * 3 + [0] * 6 + [1] * 4 + [0] * 42)
        self.assertEqual(wants_of(TEAMS, "amber", 60), wants_of(TEAMS, "amber"))
        self.assertEqual(wants_of(TEAMS, "clear"), [1] * 60)
        self.assertEqual(wants_of(TEAMS, "amber", 0), [])
        self.assertEqual(wants_of(TEAMS, "amber", 1), [0])

    def test_teams_that_begin_or_end_beyond(self):
        self.assertEqual(wants_of(TEAMS, "amber", 5), [0] * 5)
        self.assertEqual(wants_of(TEAMS, "amber", 6), [0] * 5 + [1])
        self.assertEqual(wants_of(TEAMS, "amber", 16), [0] * 5 + [1] * 3 + [0] * 6 + [1] * 2)
        self.assertEqual(wants_of([("ann", "amber", 59, 60)], "amber"), [0] * 59 + [1])

    def test_several_at_an_hour(self):
        teams = [("ann", "amber", 0, 3), ("bob", "amber", 2, 4), ("cid", "blue", 0, 9), ("dan", "amber", 2, 3)]
        before = list(teams)
        self.assertEqual(wants_of(teams, "amber", 5), [1, 1, 3, 1, 0])
        self.assertEqual(teams, before)
        self.assertEqual(wants_of([(name, "amber", 0, 60) for name in "abcdefghij"], "amber"), [10] * 60)

    def test_by_names(self):
        self.assertEqual(wants_of(hours=6, colour="blue", teams=TEAMS), [0, 0, 0, 0, 1, 1])


class WorkedBy(unittest.TestCase):
    def check_rows(self, pots, teams, told):
        """The document's words of the rows, want by want."""
        self.assertIsInstance(told, tuple)
        rows, lack = told
        self.assertIsNone(lack)
        self.assertEqual(rows, sorted(set(rows)))
        self.assertEqual(sorted((hour, team) for hour, team, pot, number in rows),
                         sorted((hour, team) for team, colour, first, last in teams for hour in range(first, last)))
        colours = {team: colour for team, colour, first, last in teams}
        used = {}
        for hour, team, pot, number in rows:
            at, colour, begin, end = pots[pot][number]
            self.assertEqual(colour, colours[team])
            self.assertTrue(begin <= hour < end)
            used.setdefault((pot, number), []).append(hour)
        for (pot, number), hours in used.items():
            self.assertEqual(len(set(hours)), len(hours))
            self.assertLessEqual(len(hours), GATHERS[pots[pot][number][1]])

    def told(self, pots, teams, place):
        """All are served where place is None; else it is the pair (hour, colour)."""
        before = copy.deepcopy((pots, teams))
        told = worked_by(PALETTE, pots, teams)
        self.assertEqual((pots, teams), before)
        if place is None:
            self.check_rows(pots, teams, told)
            return
        rows, (hour, colour, hours) = told
        self.assertIsNone(rows)
        self.assertIsInstance(told[1], tuple)
        self.assertEqual((hour, colour), place)
        offers = [offer[2:] for offer in offers_of(PALETTE, pots, colour)]
        self.assertIs(shows_lack(offers, wants_of(teams, colour), (hour, hours)), True)

    def test_nothing(self):
        self.assertEqual(worked_by(PALETTE, [], []), ([], None))
        self.assertEqual(worked_by(PALETTE, POTS, []), ([], None))
        self.assertEqual(worked_by(PALETTE, [], TEAMS[:1]), (None, (5, "amber", [5])))
        self.assertEqual(worked_by(PALETTE, [[]], [("ann", "blue", 59, 60)]), (None, (59, "blue", [59])))

    def test_ordinary(self):
        self.assertEqual(worked_by(PALETTE, POTS, TEAMS[:3]), ([
            (4, "bob", 2, 0), (5, "ann", 0, 0), (5, "bob", 2, 0), (6, "ann", 0, 0), (7, "ann", 0, 0),
            (14, "cid", 2, 1), (15, "cid", 2, 1), (16, "cid", 2, 1), (17, "cid", 2, 1)], None))
        self.told(POTS, TEAMS[:3], None)

    def test_in_the_first_and_last_hours_of_a_turn(self):
        self.told(POTS, [("ann", "amber", 5, 9)], None)
        self.told(POTS, [("ann", "amber", 4, 9)], (4, "amber"))
        self.told(POTS, [("ann", "amber", 5, 10)], (9, "amber"))

    def test_no_turn_twice_at_an_hour(self):
        self.told(POTS, [("ann", "amber", 5, 7), ("bob", "amber", 6, 7)], (6, "amber"))
        twice = [[(0, "amber", 5, 9)], [(0, "amber", 5, 9)]]
        self.told(twice, [("bob", "amber", 5, 9), ("ann", "amber", 5, 9)], None)
        self.told(twice, [("bob", "amber", 5, 9), ("ann", "amber", 5, 9), ("cid", "amber", 8, 9)], (8, "amber"))

    def test_gathers(self):
        # Blue has 2 gathers only.
        self.told(POTS, [("ann", "blue", 3, 5)], None)
        self.told(POTS, [("ann", "blue", 3, 6)], (5, "blue"))
        # Two teams want at hour 7, so each of the turns must keep a gather for it.
        pots = [[(0, "blue", 3, 8)], [(0, "blue", 3, 8)]]
        self.told(pots, [("ann", "blue", 3, 5), ("bob", "blue", 7, 8), ("cid", "blue", 7, 8)], None)
        self.told(pots, [("ann", "blue", 3, 6), ("bob", "blue", 7, 8), ("cid", "blue", 7, 8)], (7, "blue"))

    def test_the_least_hour_of_several_colours(self):
        self.told(POTS, [("ann", "blue", 0, 2), ("bob", "amber", 1, 2)], (0, "blue"))
        self.told(POTS, [("ann", "blue", 1, 2), ("bob", "amber", 0, 2)], (0, "amber"))
        self.told(POTS, [("ann", "clear", 30, 31), ("bob", "amber", 5, 8), ("cid", "blue", 31, 32)], (30, "clear"))

    def test_the_least_colour_of_one_hour(self):
        self.told(POTS, [("ann", "clear", 1, 2), ("bob", "blue", 1, 2), ("cid", "amber", 1, 2)], (1, "amber"))
        self.told(POTS, [("ann", "clear", 1, 2), ("bob", "blue", 1, 2)], (1, "blue"))
        # Of the two the one that wants first isn't the one that lacks first.
        self.told(POTS, [("ann", "amber", 5, 10), ("bob", "clear", 9, 10)], (9, "amber"))

    def test_ten_teams_in_sixty_hours(self):
        pots = [[(0, "clear", 3, 60)] for _ in range(8)]
        teams = [(name, "clear", 3, 60) for name in "hgfedcba"]
        self.told(pots, teams, None)
        self.told(pots, teams + [("i", "clear", 59, 60)], (59, "clear"))

    def test_as_the_words_have_it(self):
        rng = random.Random(71)
        places = []
        for _ in range(800):
            pots, teams = random_hall(rng)
            self.assertEqual([fault_of(PALETTE, turns) for turns in pots], [None] * len(pots))
            lacks = []
            for colour in ("amber", "blue", "clear"):
                offers = [(turn[2], turn[3], GATHERS[colour]) for turns in pots for turn in turns if turn[1] == colour]
                wants = [sum(own == colour and first <= hour < last for team, own, first, last in teams)
                         for hour in range(12)]
                first = slow_first(offers, wants)
                if first is not None:
                    lacks.append((first, colour))
            place = min(lacks) if lacks else None
            places.append(place)
            self.told(pots, teams, place)
        self.assertGreater(sum(place is None for place in places), 100)
        self.assertGreater(len(set(places)), 8)

    def test_told_the_same_and_the_askers_own(self):
        told = worked_by(PALETTE, POTS, TEAMS[:3])
        kept = copy.deepcopy(told)
        told[0].clear()
        self.assertEqual(worked_by(PALETTE, POTS, TEAMS[:3]), kept)
        told = worked_by(PALETTE, POTS, TEAMS)
        kept = copy.deepcopy(told)
        told[1][2].clear()
        self.assertEqual(worked_by(PALETTE, POTS, TEAMS), kept)

    def test_by_names(self):
        self.assertEqual(worked_by(teams=TEAMS[:1], pots=POTS, palette=PALETTE),
                         ([(5, "ann", 0, 0), (6, "ann", 0, 0), (7, "ann", 0, 0)], None))


if __name__ == "__main__":
    unittest.main()
