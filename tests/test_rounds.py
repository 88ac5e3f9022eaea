import copy
import random
import unittest

from potround.errors import Never
from potround.rounds import is_rows, steps_of
from tests.things import check_bent, check_odd

PALETTE = (
    (("amber", 2, 3, 40), ("blue", 3, 0, 25), ("clear", 1, 2, 60)),
    (("amber", "blue", 4), ("amber", "clear", None), ("blue", "amber", 1), ("clear", "amber", 6),
     ("clear", "blue", None)),
)
ROWS = [("north", "ann", "amber", 5), ("south", "bob", "clear", 7), ("north", "ann", "blue", 9),
        ("west", "ann", "clear", 4)]


class IsRows(unittest.TestCase):
    def right(self, thing):
        before = copy.deepcopy(thing)
        self.assertIs(is_rows(PALETTE, thing), True, thing)
        self.assertEqual(thing, before)

    def wrong(self, thing):
        before = copy.deepcopy(thing)
        self.assertIs(is_rows(PALETTE, thing), False, thing)
        self.assertEqual(repr(thing), repr(before))

    def test_ordinary(self):
        self.right(ROWS)
        self.assertIs(is_rows(thing=ROWS, palette=PALETTE), True)

    def test_how_many(self):
        for many in (1, 2, 11, 12):
            self.right(ROWS[:1] * many)
        for many in (0, 13, 14, 30):
            self.wrong(ROWS[:1] * many)

    def test_hours(self):
        for hours in (1, 2, 98, 99):
            self.right([("p", "t", "amber", hours)])
        for hours in (0, -1, 100, True, False, None, "1", (), [1]):
            self.wrong([("p", "t", "amber", hours)])

    def test_names(self):
        for name in ("a", "abcdefgh"):
            self.right([(name, name, "amber", 5)])
        for name in ("", "abcdefghi", "North", "no rth", "north1", None, True, 1, (), ["a"], ("a",)):
            self.wrong([(name, "t", "amber", 5)])
            self.wrong([("p", name, "amber", 5)])

    def test_colours(self):
        for colour in ("mauve", "", "Amber", None, True, 1, (), ["amber"], ("amber",)):
            self.wrong([("p", "t", colour, 5)])

    def test_that_a_colour_may_never_follow_is_no_matter(self):
        self.right([("p", "t", "amber", 5), ("p", "t", "clear", 5)])

    def test_one_wrong_of_several(self):
        for place in range(4):
            rows = list(ROWS)
            rows[place] = ("p", "t", "amber", 100)
            self.wrong(rows)

    def test_shapes(self):
        self.wrong([])
        self.wrong(tuple(ROWS))
        self.wrong([list(ROWS[0])])
        self.wrong([ROWS[0][:3]])
        self.wrong([ROWS[0] + (1,)])
        self.wrong(list(ROWS[0]))
        self.wrong(ROWS[0])

    def test_any_other_thing(self):
        check_odd(self, lambda thing: is_rows(PALETTE, thing))
        check_bent(self, lambda thing: is_rows(PALETTE, thing), ROWS)


class StepsOf(unittest.TestCase):
    def refused(self, rows, ahead, behind):
        before = list(rows)
        with self.assertRaises(Never) as caught:
            steps_of(PALETTE, rows)
        self.assertEqual((caught.exception.ahead, caught.exception.behind), (ahead, behind))
        self.assertEqual(rows, before)

    def test_one_row(self):
        self.assertEqual(steps_of(PALETTE, [("p", "t", "amber", 7)]),
                         [(0, 0, 2, 1), (0, 1, 5, 0), (1, 1, 7, 1), (1, 0, 7, 1)])

    def test_several_rows(self):
        told = [
            (0, 2, 2, 0), (0, 1, 5, 0), (1, 5, 5, 0), (1, 4, 9, 0),
            (2, 4, 1, 0), (2, 3, 3, 0), (3, 3, 7, 1), (3, 2, 7, 1),
            (4, 6, 3, 0), (4, 5, 3, 0), (5, 7, 9, 0), (5, 0, 10, 1),
            (6, 0, 1, 1), (6, 7, 3, 0), (7, 1, 4, 1), (7, 6, 4, 1),
        ]
        self.assertEqual(steps_of(PALETTE, ROWS), told)
        self.assertEqual(steps_of(rows=ROWS, palette=PALETTE), told)

    def test_pot_and_team_of_like_name(self):
        rows = [("same", "other", "amber", 1), ("other", "same", "amber", 1)]
        self.assertEqual(steps_of(PALETTE, rows), [
            (0, 2, 2, 0), (0, 1, 5, 0), (1, 1, 1, 1), (1, 0, 1, 1),
            (2, 0, 2, 1), (2, 3, 5, 0), (3, 3, 1, 1), (3, 2, 1, 1),
        ])

    def test_one_pot_and_one_team_in_all_rows(self):
        rows = [("p", "t", "amber", 1), ("p", "t", "amber", 2), ("p", "t", "blue", 3)]
        self.assertEqual(steps_of(PALETTE, rows), [
            (0, 2, 2, 0), (0, 1, 5, 0), (1, 3, 1, 0), (1, 2, 1, 0),
            (2, 4, 2, 0), (2, 3, 5, 0), (3, 5, 2, 0), (3, 4, 6, 0),
            (4, 0, 3, 1), (4, 5, 3, 0), (5, 1, 3, 1), (5, 0, 4, 1),
        ])

    def test_at_random(self):
        rng = random.Random(12)
        for _ in range(100):
            many = rng.randrange(1, 13)
            rows = [(rng.choice("pqr"), rng.choice("stu"), rng.choice(["amber", "blue"]), rng.randrange(1, 100))
                    for _ in range(many)]
            steps = steps_of(PALETTE, rows)
            self.assertEqual(len(steps), 4 * many)
            for number, (pot, team, colour, hours) in enumerate(rows):
                twice = rows + rows
                after_team = next(at for at in range(number + 1, 2 * many) if twice[at][1] == team)
                after_pot = next(at for at in range(number + 1, 2 * many) if twice[at][0] == pot)
                wash = {("amber", "blue"): 4, ("blue", "amber"): 1}.get((colour, twice[after_pot][2]), 0)
                charge, melt = {"amber": (2, 3), "blue": (3, 0)}[colour]
                self.assertEqual(steps[4 * number:4 * number + 4], [
                    (2 * number, 2 * ((number + 1) % many), charge, (number + 1) // many),
                    (2 * number, 2 * number + 1, charge + melt, 0),
                    (2 * number + 1, 2 * (after_team % many) + 1, hours, after_team // many),
                    (2 * number + 1, 2 * (after_pot % many), hours + wash, after_pot // many),
                ])

    def test_refused(self):
        self.refused([("p", "t", "amber", 1), ("p", "t", "clear", 1)], "amber", "clear")
        self.refused([("p", "t", "clear", 1), ("p", "t", "amber", 1)], "amber", "clear")
        self.refused([("p", "t", "amber", 1), ("q", "t", "blue", 1), ("p", "u", "clear", 1)], "amber", "clear")

    def test_refused_at_the_first_such_row(self):
        self.refused([("p", "t", "clear", 1), ("q", "t", "amber", 1), ("q", "t", "clear", 1), ("p", "t", "blue", 1)],
                     "clear", "blue")
        self.refused([("q", "t", "amber", 1), ("p", "t", "clear", 1), ("q", "t", "clear", 1), ("p", "t", "blue", 1)],
                     "amber", "clear")

    def test_other_pots_are_no_matter(self):
        self.assertEqual(len(steps_of(PALETTE, [("p", "t", "amber", 1), ("q", "t", "clear", 1)])), 8)

    def test_rows_changed_in_place(self):
        rows = [("p", "t", "amber", 7)]
        told = steps_of(PALETTE, rows)
        told.clear()
        rows[0] = ("p", "t", "amber", 8)
        self.assertEqual(steps_of(PALETTE, rows), [(0, 0, 2, 1), (0, 1, 5, 0), (1, 1, 8, 1), (1, 0, 8, 1)])


if __name__ == "__main__":
    unittest.main()
