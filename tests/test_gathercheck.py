import copy
import itertools
import random
import unittest

from potround.gathercheck import shows_lack, shows_rows
from potround.gathering import served
from tests.test_gathering import random_case
from tests.things import bent, check_bent, check_odd

OFFERS = [(0, 3, 2), (1, 4, 3), (0, 4, 1)]
WANTS = [1, 2, 1, 1]
ROWS = [[0], [0, 1], [1], [1]]


def plain_number(thing):
    return type(thing) is int


def slow_rows(offers, wants, thing):
    """The document's words, want by want."""
    if type(thing) is not list or len(thing) != len(wants):
        return False
    taken = []
    for hour, row in enumerate(thing):
        if type(row) is not list or len(row) != wants[hour]:
            return False
        for number in row:
            if not plain_number(number) or number not in range(len(offers)):
                return False
            if hour not in range(offers[number][0], offers[number][1]):
                return False
        if row != sorted(set(row)):
            return False
        taken += row
    return all(taken.count(number) <= offers[number][2] for number in range(len(offers)))


def slow_lack(offers, wants, thing):
    """The document's words, offer by offer."""
    if type(thing) is not tuple or len(thing) != 2:
        return False
    hour, hours = thing
    if not plain_number(hour) or hour not in range(len(wants)) or type(hours) is not list:
        return False
    if not all(plain_number(each) and each in range(hour + 1) for each in hours) or hours != sorted(set(hours)):
        return False
    most = 0
    for first, last, gathers in offers:
        inside = sum(first <= each < last for each in hours)
        most += gathers if gathers < inside else inside
    return sum(wants[each] for each in hours) > most


class ShowsRows(unittest.TestCase):
    def asked(self, thing, answer, offers=OFFERS, wants=WANTS):
        before = copy.deepcopy((offers, wants, thing))
        self.assertIs(shows_rows(offers, wants, thing), answer, thing)
        self.assertEqual(repr((offers, wants, thing)), repr(before))

    def test_ordinary(self):
        self.asked(ROWS, True)
        self.asked([[2], [0, 1], [0], [1]], True)
        self.asked([], True, OFFERS, [])
        self.asked([[], []], True, OFFERS, [0, 0])
        self.asked([[]], True, [], [0])

    def test_all_rows_that_are_so(self):
        # Each choice of numbers at each hour, also those that served doesn't tell.
        numbers = [list(some) for many in range(3) for some in itertools.combinations(range(3), many)]
        right = [rows for rows in itertools.product(numbers, repeat=4) if slow_rows(OFFERS, WANTS, list(rows))]
        self.assertGreater(len(right), 5)
        self.assertIn(served(OFFERS, WANTS)[0], [list(rows) for rows in right])
        for rows in itertools.product(numbers, repeat=4):
            self.asked(list(rows), rows in right)

    def test_too_few_and_too_many_rows(self):
        self.asked(ROWS[:3], False)
        self.asked(ROWS + [[]], False)
        self.asked([], False)
        self.asked([[]], False, OFFERS, [])

    def test_a_number_twice_or_not_rising(self):
        self.asked([[0], [1, 1], [1], [1]], False)
        self.asked([[0], [1, 0], [1], [1]], False)
        self.asked([[0], [0, 0, 1], [1], [1]], False)

    def test_no_offer_of_that_number(self):
        self.asked([[3], [0, 1], [1], [1]], False)
        self.asked([[-1], [0, 1], [1], [1]], False)
        self.asked([[0], [-2, 1], [1], [1]], False)
        self.asked([[0], [0, 10 ** 30], [1], [1]], False)
        self.asked([[0]], False, [], [1])

    def test_an_hour_that_the_offer_has_not(self):
        self.asked([[1], [0, 1], [0], [1]], False)
        self.asked([[0], [1, 2], [1], [0]], False)
        self.asked([[0], [0]], False, [(0, 1, 9)], [1, 1])
        self.asked([[], [0]], True, [(1, 2, 9)], [0, 1])
        self.asked([[0], []], False, [(1, 2, 9)], [1, 0])

    def test_more_than_its_gathers(self):
        self.asked([[0], [0, 1], [0], [1]], False)
        self.asked([[0], [0, 2], [1], [2]], False)
        self.asked([[0]], False, [(0, 1, 0)], [1])
        self.asked([[0]] * 60, True, [(0, 60, 60)], [1] * 60)
        self.asked([[0]] * 60, False, [(0, 60, 59)], [1] * 60)

    def test_a_want_not_served_or_served_twice(self):
        self.asked([[0], [0], [1], [1]], False)
        self.asked([[], [0, 1], [1], [1]], False)
        self.asked([[0, 2], [0, 1], [1], [1]], False)

    def test_other_things_in_a_numbers_place(self):
        for part in (True, False, None, "1", [1], (1,), []):
            self.asked([[0], [0, 1], [part], [1]], False)
            self.asked([[part], [0, 1], [1], [1]], False)
            self.asked([[0], [part, 1], [1], [1]], False)

    def test_lists_and_tuples(self):
        self.asked(tuple(ROWS), False)
        self.asked([(0,), [0, 1], [1], [1]], False)
        self.asked([[0], (0, 1), [1], [1]], False)
        self.asked((), False, OFFERS, [])
        self.asked([()], False, OFFERS, [0])
        self.asked([0, [0, 1], [1], [1]], False)
        self.asked([None, [0, 1], [1], [1]], False)
        self.asked(["0", [0, 1], [1], [1]], False)
        self.asked([""], False, OFFERS, [0])

    def test_any_other_thing(self):
        check_odd(self, lambda thing: shows_rows(OFFERS, WANTS, thing))
        check_bent(self, lambda thing: shows_rows(OFFERS, WANTS, thing), ROWS)
        rng = random.Random(61)
        for _ in range(4000):
            offers, wants = random_case(rng, 4, 5, 3, 2)
            rows = served(offers, wants)[0] or [[0], [0, 1]]
            thing = bent(rng, rows)
            self.asked(thing, slow_rows(offers, wants, thing), offers, wants)
            self.asked(rows, slow_rows(offers, wants, rows), offers, wants)

    def test_by_names(self):
        self.assertIs(shows_rows(thing=ROWS, wants=WANTS, offers=OFFERS), True)


class ShowsLack(unittest.TestCase):
    # Hours 1 and 2 want four, and get two of the first offer and one of the second.
    OFFERS = [(0, 3, 2), (2, 5, 9)]
    WANTS = [0, 2, 2, 1, 1]

    def asked(self, thing, answer, offers=None, wants=None):
        offers = self.OFFERS if offers is None else offers
        wants = self.WANTS if wants is None else wants
        before = copy.deepcopy((offers, wants, thing))
        self.assertIs(shows_lack(offers, wants, thing), answer, thing)
        self.assertEqual(repr((offers, wants, thing)), repr(before))

    def test_ordinary(self):
        self.assertEqual(served(self.OFFERS, self.WANTS)[1][0], 1)
        self.asked((1, [1]), True)
        self.asked((2, [1, 2]), True)
        self.asked((2, [2]), False)
        self.asked((0, [0]), True, [], [1])
        self.asked((0, [0]), False, [(0, 1, 1)], [1])
        self.asked((0, [0]), True, [(0, 1, 0)], [1])
        self.asked((0, [0]), True, [(1, 2, 1)], [1])

    def test_any_hour_that_is_not_before_the_hours(self):
        # That it's the first hour isn't looked at, nor that it is one of the hours.
        for hour in range(1, 5):
            self.asked((hour, [1]), True)
        for hour in (5, 6, 60, -1, 10 ** 30):
            self.asked((hour, [1]), False)

    def test_all_hours_that_are_so(self):
        some = [list(hours) for many in range(6) for hours in itertools.combinations(range(5), many)]
        answers = []
        for hour in range(-1, 7):
            for hours in some:
                answer = slow_lack(self.OFFERS, self.WANTS, (hour, hours))
                answers.append(answer)
                self.asked((hour, hours), answer)
        self.assertGreater(answers.count(True), 10)
        self.assertGreater(answers.count(False), 10)

    def test_hours_beyond_the_hour(self):
        self.asked((0, [1]), False)
        self.asked((1, [1, 2]), False)
        self.asked((2, [-1, 1, 2]), False)
        self.asked((4, [1, 5]), False)

    def test_hours_not_rising(self):
        self.asked((2, [2, 1]), False)
        self.asked((2, [1, 1]), False)
        self.asked((2, [1, 1, 2]), False)

    def test_wants_that_are_not_too_many(self):
        self.asked((4, []), False)
        self.asked((0, []), False, [], [1])
        self.asked((4, [3, 4]), False)
        self.asked((4, [0]), False)
        # Just as many as there can be, and one more.
        self.asked((2, [0, 1, 2]), False, [(0, 3, 2), (1, 2, 9)], [1, 1, 1])
        self.asked((2, [0, 1, 2]), True, [(0, 3, 2), (1, 2, 9)], [1, 2, 1])
        self.asked((2, [0, 1, 2]), False, [(0, 2, 9), (1, 3, 1)], [1, 1, 1])
        self.asked((2, [0, 1, 2]), True, [(0, 2, 9), (1, 3, 1)], [1, 2, 1])

    def test_no_wants(self):
        self.asked((0, []), False, [], [])
        self.asked((0, [0]), False, [], [])
        self.asked((-1, []), False, [], [])

    def test_other_things_in_a_numbers_place(self):
        for part in (True, False, None, "1", [1], (1,), []):
            self.asked((part, [1]), False)
            self.asked((2, [part, 2]), False)
            self.asked((2, [1, part]), False)
        self.asked((0, [False]), False, [], [1])
        self.asked((False, [0]), False, [], [1])

    def test_lists_and_tuples(self):
        self.asked([1, [1]], False)
        self.asked((1, (1,)), False)
        self.asked((1, 1), False)
        self.asked((1, None), False)
        self.asked((1, "1"), False)
        self.asked((1,), False)
        self.asked((1, [1], None), False)
        self.asked(((1, [1]),), False)
        self.asked(([1], 1), False)

    def test_any_other_thing(self):
        check_odd(self, lambda thing: shows_lack(self.OFFERS, self.WANTS, thing))
        check_bent(self, lambda thing: shows_lack(self.OFFERS, self.WANTS, thing), (2, [1, 2]))
        rng = random.Random(62)
        for _ in range(4000):
            offers, wants = random_case(rng, 3, 5, 2, 2)
            lack = served(offers, wants)[1] or (1, [0, 1])
            thing = bent(rng, lack)
            self.asked(thing, slow_lack(offers, wants, thing), offers, wants)
            self.asked(lack, slow_lack(offers, wants, lack), offers, wants)

    def test_by_names(self):
        self.assertIs(shows_lack(thing=(1, [1]), wants=self.WANTS, offers=self.OFFERS), True)


if __name__ == "__main__":
    unittest.main()
