import copy
import itertools
import random
import unittest

from potround.cooling import bound_by, in_at, most_cooled, most_in, shows_cooled, slotted
from tests.things import bent, check_bent, odd_things

# In from hour to ahead of hour: 0 is in 2..5, 1 in 0..9, 2 in 5..6, 3 in 2..3, 4 in 9..12.
PIECES = [(2, 3), (0, 9), (5, 1), (2, 1), (9, 3)]


def slow_in(pieces, hour):
    return [number for number, (come, cool) in enumerate(pieces) if hour in range(come, come + cool)]


def all_hours(pieces):
    """Each hour from the first coming to the last going."""
    return range(min(come for come, cool in pieces), max(come + cool for come, cool in pieces)) if pieces else range(0)


def slow_fits(pieces, slots, numbers):
    return all(len(set(slow_in(pieces, hour)) & set(numbers)) <= slots for hour in all_hours(pieces))


def slow_most(pieces, slots):
    """How many pieces can be cooled at most: each choice of them tried."""
    numbers = range(len(pieces))
    return max(many for many in range(len(pieces) + 1)
               if any(slow_fits(pieces, slots, some) for some in itertools.combinations(numbers, many)))


def slow_slots(pieces):
    """The tunnel gone through hour by hour."""
    slots = {}
    for hour in all_hours(pieces):
        for number, (come, cool) in enumerate(pieces):
            if come == hour:
                taken = [slots[other] for other in slow_in(pieces, hour) if other in slots]
                slots[number] = min(slot for slot in range(len(pieces) + 1) if slot not in taken)
    return [slots[number] for number in range(len(pieces))]


def slow_shows(pieces, slots, thing):
    """The document's words, part by part."""
    if type(thing) is not list or any(type(part) is not int for part in thing):
        return False
    if any(part not in range(len(pieces)) for part in thing) or thing != sorted(set(thing)):
        return False
    return slow_fits(pieces, slots, thing)


def random_pieces(rng, most, hours, cools):
    return [(rng.randrange(hours), rng.randrange(1, cools + 1)) for _ in range(rng.randrange(most + 1))]


class InAt(unittest.TestCase):
    def test_edges_of_a_piece(self):
        for hour, told in ((6, []), (7, [0]), (8, [0]), (9, [0]), (10, []), (11, [])):
            self.assertEqual(in_at([(7, 3)], hour), told, hour)
        self.assertEqual(in_at([(7, 1)], 7), [0])
        self.assertEqual(in_at([(7, 1)], 8), [])
        self.assertEqual(in_at([(0, 99)], 0), [0])
        self.assertEqual(in_at([(0, 99)], 98), [0])
        self.assertEqual(in_at([(0, 99)], 99), [])

    def test_several(self):
        self.assertEqual(in_at(PIECES, 0), [1])
        self.assertEqual(in_at(PIECES, 2), [0, 1, 3])
        self.assertEqual(in_at(PIECES, 3), [0, 1])
        self.assertEqual(in_at(PIECES, 5), [1, 2])
        self.assertEqual(in_at(PIECES, 9), [4])
        self.assertEqual(in_at(PIECES, 12), [])

    def test_none(self):
        self.assertEqual(in_at([], 0), [])
        self.assertEqual(in_at([], 10 ** 6), [])

    def test_far_hours(self):
        self.assertEqual(in_at([(10 ** 6, 99)] * 40, 10 ** 6), list(range(40)))
        self.assertEqual(in_at([(10 ** 6, 99)], 10 ** 6 - 1), [])

    def test_against_a_slow_reading(self):
        rng = random.Random(151)
        for _ in range(200):
            pieces = random_pieces(rng, 12, 20, 9)
            before = copy.deepcopy(pieces)
            for hour in range(32):
                self.assertEqual(in_at(pieces, hour), slow_in(pieces, hour))
            self.assertEqual(pieces, before)

    def test_own_and_by_names(self):
        told = in_at(hour=2, pieces=PIECES)
        told.clear()
        self.assertEqual(in_at(PIECES, 2), [0, 1, 3])


class MostIn(unittest.TestCase):
    def test_none(self):
        self.assertEqual(most_in([]), (0, None))
        self.assertIsInstance(most_in([]), tuple)

    def test_one(self):
        self.assertEqual(most_in([(7, 3)]), (1, 7))
        self.assertEqual(most_in([(0, 1)]), (1, 0))
        self.assertEqual(most_in([(10 ** 6, 99)]), (1, 10 ** 6))

    def test_first_of_several_hours(self):
        self.assertEqual(most_in([(20, 2), (4, 2)]), (1, 4))
        self.assertEqual(most_in([(20, 5), (21, 5), (3, 5), (5, 5)]), (2, 5))
        self.assertEqual(most_in([(1, 1), (3, 3), (5, 5), (9, 1)]), (2, 5))

    def test_like_hours(self):
        self.assertEqual(most_in([(4, 2), (4, 9), (4, 1)]), (3, 4))
        self.assertEqual(most_in([(4, 99)] * 40), (40, 4))

    def test_out_when_the_next_comes(self):
        self.assertEqual(most_in([(0, 4), (4, 4)]), (1, 0))
        self.assertEqual(most_in([(0, 5), (4, 4)]), (2, 4))

    def test_several(self):
        before = copy.deepcopy(PIECES)
        self.assertEqual(most_in(PIECES), (3, 2))
        self.assertEqual(PIECES, before)
        self.assertEqual(most_in(pieces=PIECES), (3, 2))

    def test_against_a_slow_reading(self):
        rng = random.Random(152)
        for _ in range(300):
            pieces = random_pieces(rng, 12, 20, 9)
            many = max([len(slow_in(pieces, hour)) for hour in range(32)])
            first = min([hour for hour in range(32) if len(slow_in(pieces, hour)) == many]) if many else None
            self.assertEqual(most_in(pieces), (many, first))


class Slotted(unittest.TestCase):
    def test_none_and_one(self):
        self.assertEqual(slotted([]), [])
        self.assertEqual(slotted([(7, 3)]), [0])

    def test_those_that_come_first(self):
        self.assertEqual(slotted([(5, 9), (3, 9), (4, 9)]), [2, 0, 1])

    def test_like_hours_by_numbers(self):
        self.assertEqual(slotted([(5, 9), (5, 1), (5, 4)]), [0, 1, 2])
        self.assertEqual(slotted([(5, 9), (3, 9), (5, 1), (3, 1)]), [1, 0, 2, 1])

    def test_least_free_one(self):
        # Slot 0 is free again at 2, slot 1 at 4; the piece that comes at 2 has the lesser one.
        self.assertEqual(slotted([(0, 2), (0, 4), (0, 9), (2, 9), (4, 1), (5, 1)]), [0, 1, 2, 0, 1, 1])
        self.assertEqual(slotted([(0, 4), (0, 4), (4, 1), (4, 1)]), [0, 1, 0, 1])
        self.assertEqual(slotted([(0, 4), (3, 4), (4, 1)]), [0, 1, 0])

    def test_order_of_the_pieces_handed_in(self):
        before = copy.deepcopy(PIECES)
        self.assertEqual(slotted(PIECES), [1, 0, 1, 2, 0])
        self.assertEqual(PIECES, before)
        told = slotted(pieces=PIECES)
        told.reverse()
        self.assertEqual(slotted(PIECES), [1, 0, 1, 2, 0])

    def test_forty(self):
        self.assertEqual(slotted([(0, 99)] * 40), list(range(40)))
        self.assertEqual(slotted([(number, 1) for number in range(40)]), [0] * 40)
        self.assertEqual(slotted([(40 - number, 99) for number in range(40)]), list(range(40))[::-1])

    def test_against_a_slow_reading(self):
        rng = random.Random(153)
        for _ in range(300):
            pieces = random_pieces(rng, 14, 20, 9)
            slots = slotted(pieces)
            self.assertEqual(slots, slow_slots(pieces))
            # No two in one slot at an hour, and slots 0 to ahead of the greatest number in.
            for hour in range(32):
                taken = [slots[number] for number in slow_in(pieces, hour)]
                self.assertEqual(len(taken), len(set(taken)))
            self.assertEqual(sorted(set(slots)), list(range(most_in(pieces)[0])))


class MostCooled(unittest.TestCase):
    def told(self, pieces, slots, many):
        """Numbers and hours aren't promised, but all that is said of them is."""
        before = copy.deepcopy(pieces)
        pair = most_cooled(pieces, slots)
        self.assertEqual(pieces, before)
        self.assertIsInstance(pair, tuple)
        numbers, hours = pair
        self.assertIs(slow_shows(pieces, slots, numbers), True, (pieces, slots, numbers))
        self.assertIs(shows_cooled(pieces, slots, numbers), True)
        self.assertEqual(len(numbers), many, (pieces, slots, numbers))
        self.assertIs(type(hours), list)
        self.assertTrue(all(type(hour) is int for hour in hours))
        self.assertEqual(hours, sorted(set(hours)))
        self.assertEqual(bound_by(pieces, slots, hours), many, (pieces, slots, hours))
        self.assertEqual(most_cooled(pieces, slots), pair)
        return pair

    def test_no_pieces(self):
        for slots in (0, 1, 60):
            self.told([], slots, 0)
        self.assertEqual(most_cooled([], 60)[0], [])

    def test_no_slots(self):
        self.assertEqual(most_cooled(PIECES, 0)[0], [])
        self.told(PIECES, 0, 0)
        self.told([(5, 1)], 0, 0)
        self.told([(number, 2) for number in range(40)], 0, 0)

    def test_sixty_slots(self):
        self.assertEqual(self.told(PIECES, 60, 5)[0], [0, 1, 2, 3, 4])
        self.told([(3, 99)] * 40, 60, 40)

    def test_forty_pieces(self):
        self.told([(3, 99)] * 40, 39, 39)
        self.told([(3, 99)] * 40, 40, 40)
        self.told([(3, 99)] * 40, 1, 1)
        self.told([(10 ** 6 - number, 99) for number in range(40)], 7, 7)
        self.told([(number, 2) for number in range(40)], 1, 20)
        self.told([(number // 2, 2) for number in range(40)], 2, 20)

    def test_by_hand(self):
        self.told(PIECES, 1, 3)
        self.told(PIECES, 2, 4)
        self.told(PIECES, 3, 5)
        # The long one is in the way of all others, whichever comes first.
        self.told([(0, 9), (1, 2), (3, 2), (5, 2)], 1, 3)
        self.told([(1, 2), (0, 9), (3, 2), (5, 2)], 1, 3)
        self.told([(5, 2), (3, 2), (1, 2), (0, 9)], 1, 3)
        # One that comes when another comes out isn't in its way.
        self.told([(0, 4), (4, 4), (8, 4)], 1, 3)
        self.told([(0, 5), (4, 5), (8, 4)], 1, 2)

    def test_like_pieces(self):
        self.told([(4, 3)] * 5, 2, 2)
        self.told([(4, 3)] * 5 + [(6, 3)] * 5, 2, 2)
        self.told([(4, 3)] * 5 + [(7, 3)] * 5, 2, 4)

    def test_against_a_slow_search(self):
        rng = random.Random(154)
        seen = set()
        for _ in range(700):
            pieces = random_pieces(rng, 8, 10, 6)
            slots = rng.randrange(5)
            many = slow_most(pieces, slots)
            seen.add((slots, many))
            self.told(pieces, slots, many)
        self.assertGreater(len(seen), 25)

    def test_great_ones_by_their_hours(self):
        # That hours tell just as many is proof enough: no more than that can be cooled.
        rng = random.Random(155)
        for _ in range(150):
            pieces = random_pieces(rng, 40, rng.choice([5, 60, 300]), rng.choice([4, 30, 99]))
            slots = rng.randrange(12)
            self.told(pieces, slots, len(most_cooled(pieces, slots)[0]))

    def test_own_and_by_names(self):
        numbers, hours = most_cooled(slots=1, pieces=PIECES)
        kept = copy.deepcopy((numbers, hours))
        self.assertIsNot(numbers, hours)
        numbers.append(9)
        hours.append(9)
        self.assertEqual(most_cooled(PIECES, 1), kept)


class BoundBy(unittest.TestCase):
    def test_no_hours(self):
        self.assertEqual(bound_by(PIECES, 3, []), 5)
        self.assertEqual(bound_by([], 3, []), 0)
        self.assertEqual(bound_by([(0, 1)] * 40, 60, []), 40)

    def test_hours_at_which_none_is_in(self):
        self.assertEqual(bound_by(PIECES, 3, [12]), 8)
        self.assertEqual(bound_by(PIECES, 3, [12, 13, 10 ** 6]), 14)
        self.assertEqual(bound_by([], 7, [0, 4]), 14)
        self.assertEqual(bound_by([(4, 2)], 7, [3, 6]), 15)

    def test_pieces_in_at_several_hours(self):
        # At 2 and 3 are 0, 1 and 3, each counted once.
        self.assertEqual(bound_by(PIECES, 1, [2, 3]), 4)
        self.assertEqual(bound_by(PIECES, 1, [2]), 3)
        self.assertEqual(bound_by(PIECES, 1, [2, 5, 9]), 3)
        self.assertEqual(bound_by(PIECES, 2, list(range(12))), 24)

    def test_first_and_last_hour_in(self):
        self.assertEqual(bound_by([(4, 2)], 0, [4]), 0)
        self.assertEqual(bound_by([(4, 2)], 0, [5]), 0)
        self.assertEqual(bound_by([(4, 2)], 0, [3]), 1)
        self.assertEqual(bound_by([(4, 2)], 0, [6]), 1)

    def test_against_a_slow_reading(self):
        rng = random.Random(156)
        for _ in range(300):
            pieces = random_pieces(rng, 8, 10, 6)
            slots = rng.randrange(5)
            hours = sorted(rng.sample(range(16), rng.randrange(6)))
            before = copy.deepcopy((pieces, hours))
            found = {number for hour in hours for number in slow_in(pieces, hour)}
            told = bound_by(pieces, slots, hours)
            self.assertEqual(told, slots * len(hours) + len(pieces) - len(found))
            self.assertEqual((pieces, hours), before)
            self.assertGreaterEqual(told, len(most_cooled(pieces, slots)[0]))

    def test_by_names(self):
        self.assertEqual(bound_by(hours=[2], slots=1, pieces=PIECES), 3)


class ShowsCooled(unittest.TestCase):
    def asked(self, thing, answer, pieces=PIECES, slots=2):
        before = copy.deepcopy((pieces, thing))
        self.assertIs(shows_cooled(pieces, slots, thing), answer, thing)
        self.assertEqual(repr((pieces, thing)), repr(before))

    def test_all_that_are_so(self):
        for thing in ([], [0], [4], [0, 1], [0, 3], [1, 2, 4], [0, 2, 3, 4], [0, 1, 2, 4]):
            self.asked(thing, True)
        self.asked([0, 1, 2, 3, 4], True, slots=3)
        self.asked([2, 3, 4], True, slots=1)
        self.asked(list(range(40)), True, [(0, 99)] * 40, 60)

    def test_no_slots_and_no_pieces(self):
        self.asked([], True, slots=0)
        self.asked([4], False, slots=0)
        self.asked([], True, [], 0)
        self.asked([0], False, [], 9)
        self.asked([-1], False, [], 9)

    def test_too_many_at_an_hour(self):
        self.asked([0, 1, 3], False)
        self.asked([0, 1, 2, 3, 4], False)
        self.asked([1, 2], False, slots=1)
        self.asked([0, 1], True, [(0, 4), (4, 1)], 1)
        self.asked([0, 1], False, [(0, 5), (4, 1)], 1)
        self.asked(list(range(40)), False, [(0, 99)] * 40, 39)

    def test_numbers(self):
        self.asked([1, 0], False)
        self.asked([4, 2], False)
        self.asked([4, 4], False)
        self.asked([0, 2, 2], False)
        self.asked([5], False)
        self.asked([-1], False)
        self.asked([0, 10 ** 30], False)

    def test_true_and_false(self):
        self.asked([False], False)
        self.asked([True], False)
        self.asked([0, True], False)
        self.asked([False, 2], False)

    def test_other_things(self):
        for thing in ((), (0,), (0, 2), [[0]], [(0,)], ["0"], [None], None, True, 0, "", "0", [0, None], [0, "b"]):
            self.asked(thing, False)

    def test_things_of_any_make(self):
        # Some of the odd things are lists of pieces' numbers.
        for thing in odd_things():
            self.asked(thing, slow_shows(PIECES, 2, thing))
        check_bent(self, lambda thing: shows_cooled(PIECES, 2, thing), [0, 1, 2, 4])

    def test_against_a_slow_reading(self):
        rng = random.Random(157)
        answers = []
        for _ in range(2500):
            pieces = random_pieces(rng, 6, 8, 5)
            slots = rng.randrange(4)
            thing = sorted(rng.sample(range(len(pieces)), rng.randrange(len(pieces) + 1)))
            if rng.random() < 0.4:
                thing = bent(rng, thing)
            answers.append(shows_cooled(pieces, slots, thing))
            self.assertIs(answers[-1], slow_shows(pieces, slots, thing), (pieces, slots, thing))
        self.assertGreater(answers.count(True), 500)
        self.assertGreater(answers.count(False), 500)

    def test_by_names(self):
        self.assertIs(shows_cooled(thing=[0, 1], slots=2, pieces=PIECES), True)


if __name__ == "__main__":
    unittest.main()
